import PyProof.Rows.All
import Wide.All
import OpenK.AllK
import Wide.FinOn
import HandS.ForMost
import PyProof.StrOps2
import HandS.Wide
import PyProof.ReprRoads
import HandS.Style
import HandS.EndBits
import HandS.Words
import HandS.More
import HandS.TupLe
import PyProof.ListStr
import PyProof.StrLawsRepr
import PyProof.FitsInt
import HandS.IsInst
import HandS.Iter
import HandS.StrMore
import HandS.Sort
import KE.KDictList
import PyProof.CollectIter
import PyProof.JoinWalk
import PyProof.DictWalks
import PyProof.Rows.StrJoin2
import HandS.List
import PyProof.SeqIndex
import PyProof.EqAt
import HandS.Strs
import HandS.SetKeys
import PyProof.Rows.SetFrom
import HandS.Conv
import PyProof.Rows.CountFlat
import PyProof.Rows.StrCase
import PySem.Challenge.RW_conflate_k05_logs_of_runs
set_option Elab.async false
set_option linter.all false
set_option maxRecDepth 100000
namespace Ab
open PySem PySem.Spec PyProof.Rows L2

/-! ## values that the walk knows: frozen data, and trees that one place owns -/
inductive W where
  | d (x : PyData)
  | v (x : V)
  | lst (ws : List W)
  | dk (kvs : List (Key × W))
  | ins (C : Addr) (fs : List (Str × W))
  | tup (ws : List W)

abbrev Env := List (Option W)

/-- a key as data -/
def kD : Key → PyData
  | .inl i => .int i
  | .inr x => .str x

mutual
/-- v is the datum, all of it in F -/
def Dq (K : PySem.W.Frag) (F : Hp) : PyData → V → Prop
  | .none, v => v = .non
  | .bool b, v => v = .bl b
  | .int i, v => v = .int i
  | .str x, v => v = .str x
  | .list ds, v => ∃ a vs, v = .ref a ∧ SqL K F a vs ∧ Dqs K F ds vs
  | .tuple ds, v => ∃ a vs, v = .ref a ∧ SqT K F a vs ∧ Dqs K F ds vs
  | .dict ds, v => ∃ a us, v = .ref a ∧ F a = some (.dK us) ∧ Dqk K F ds us
def Dqs (K : PySem.W.Frag) (F : Hp) : List PyData → List V → Prop
  | [], vs => vs = []
  | d :: ds, vs => ∃ v r, vs = v :: r ∧ Dq K F d v ∧ Dqs K F ds r
def Dqk (K : PySem.W.Frag) (F : Hp) : List (PyData × PyData) → List (Key × V) → Prop
  | [], us => us = []
  | (k, d) :: ds, us => ∃ z v r, us = (z, v) :: r ∧ k = kD z ∧ Dq K F d v ∧ Dqk K F ds r
end

mutual
/-- v is the tree w: its data in F, its own objects in H, at the addresses A -/
def Rep (K : PySem.W.Frag) (F H : Hp) : W → V → List Addr → Prop
  | .d x, v, A => Dq K F x v ∧ A = []
  | .v x, v, A => v = x ∧ A = []
  | .lst ws, v, A => ∃ a vs B, v = .ref a ∧ A = a :: B ∧ H a = some (.lst vs) ∧ Reps K F H ws vs B
  | .dk kvs, v, A => ∃ a us B, v = .ref a ∧ A = a :: B ∧ H a = some (.dK us) ∧ Repk K F H kvs us B
  | .ins C fs, v, A => ∃ a dx us B, v = .ref a ∧ A = a :: B ∧ H a = some (.ins C dx us) ∧ Repf K F H fs us B
  | .tup ws, v, A => ∃ a vs B, v = .ref a ∧ A = a :: B ∧ H a = some (.tup vs) ∧ Reps K F H ws vs B
def Reps (K : PySem.W.Frag) (F H : Hp) : List W → List V → List Addr → Prop
  | [], vs, A => vs = [] ∧ A = []
  | w :: ws, vs, A => ∃ v r B C, vs = v :: r ∧ A = B ++ C ∧ Rep K F H w v B ∧ Reps K F H ws r C
def Repk (K : PySem.W.Frag) (F H : Hp) : List (Key × W) → List (Key × V) → List Addr → Prop
  | [], us, A => us = [] ∧ A = []
  | (k, w) :: ws, us, A => ∃ v r B C, us = (k, v) :: r ∧ A = B ++ C ∧ Rep K F H w v B ∧ Repk K F H ws r C
def Repf (K : PySem.W.Frag) (F H : Hp) : List (Str × W) → List (Str × V) → List Addr → Prop
  | [], us, A => us = [] ∧ A = []
  | (k, w) :: ws, us, A => ∃ v r B C, us = (k, v) :: r ∧ A = B ++ C ∧ Rep K F H w v B ∧ Repf K F H ws r C
end

section
variable {K : PySem.W.Frag} {F H : Hp}
theorem rep_d {x : PyData} {v : V} {A : List Addr} : Rep K F H (.d x) v A = (Dq K F x v ∧ A = []) := by simp only [Rep]
theorem rep_v {x : V} {v : V} {A : List Addr} : Rep K F H (.v x) v A = (v = x ∧ A = []) := by simp only [Rep]
theorem rep_lst {ws : List W} {v : V} {A : List Addr} : Rep K F H (.lst ws) v A = ∃ a vs B, v = .ref a ∧ A = a :: B ∧ H a = some (.lst vs) ∧ Reps K F H ws vs B := by simp only [Rep]
theorem rep_dk {ws : List (Key × W)} {v : V} {A : List Addr} : Rep K F H (.dk ws) v A = ∃ a us B, v = .ref a ∧ A = a :: B ∧ H a = some (.dK us) ∧ Repk K F H ws us B := by simp only [Rep]
theorem rep_ins {C : Addr} {ws : List (Str × W)} {v : V} {A : List Addr} : Rep K F H (.ins C ws) v A = ∃ a dx us B, v = .ref a ∧ A = a :: B ∧ H a = some (.ins C dx us) ∧ Repf K F H ws us B := by simp only [Rep]
theorem rep_tup {ws : List W} {v : V} {A : List Addr} : Rep K F H (.tup ws) v A = ∃ a vs B, v = .ref a ∧ A = a :: B ∧ H a = some (.tup vs) ∧ Reps K F H ws vs B := by simp only [Rep]
theorem reps_nil {vs : List V} {A : List Addr} : Reps K F H [] vs A = (vs = [] ∧ A = []) := by simp only [Reps]
theorem reps_cons {w : W} {ws : List W} {vs : List V} {A : List Addr} : Reps K F H (w :: ws) vs A = ∃ v r B C, vs = v :: r ∧ A = B ++ C ∧ Rep K F H w v B ∧ Reps K F H ws r C := by simp only [Reps]
theorem repk_nil {vs : List (Key × V)} {A : List Addr} : Repk K F H [] vs A = (vs = [] ∧ A = []) := by simp only [Repk]
theorem repk_cons {k : Key} {w : W} {ws : List (Key × W)} {vs : List (Key × V)} {A : List Addr} : Repk K F H ((k, w) :: ws) vs A = ∃ v r B C, vs = (k, v) :: r ∧ A = B ++ C ∧ Rep K F H w v B ∧ Repk K F H ws r C := by simp only [Repk]
theorem repf_nil {vs : List (Str × V)} {A : List Addr} : Repf K F H [] vs A = (vs = [] ∧ A = []) := by simp only [Repf]
theorem repf_cons {k : Str} {w : W} {ws : List (Str × W)} {vs : List (Str × V)} {A : List Addr} : Repf K F H ((k, w) :: ws) vs A = ∃ v r B C, vs = (k, v) :: r ∧ A = B ++ C ∧ Rep K F H w v B ∧ Repf K F H ws r C := by simp only [Repf]
theorem dq_list {ds : List PyData} {v : V} : Dq K F (.list ds) v = ∃ a vs, v = .ref a ∧ SqL K F a vs ∧ Dqs K F ds vs := by simp only [Dq]
theorem dq_tup {ds : List PyData} {v : V} : Dq K F (.tuple ds) v = ∃ a vs, v = .ref a ∧ SqT K F a vs ∧ Dqs K F ds vs := by simp only [Dq]
theorem dq_dict {ds : List (PyData × PyData)} {v : V} : Dq K F (.dict ds) v = ∃ a us, v = .ref a ∧ F a = some (.dK us) ∧ Dqk K F ds us := by simp only [Dq]
theorem dq_none {v : V} : Dq K F .none v = (v = .non) := by simp only [Dq]
theorem dq_bool {b : Bool} {v : V} : Dq K F (.bool b) v = (v = .bl b) := by simp only [Dq]
theorem dq_int {i : Int} {v : V} : Dq K F (.int i) v = (v = .int i) := by simp only [Dq]
theorem dq_str {x : Str} {v : V} : Dq K F (.str x) v = (v = .str x) := by simp only [Dq]
theorem dqs_nil {vs : List V} : Dqs K F [] vs = (vs = []) := by simp only [Dqs]
theorem dqs_cons {d : PyData} {ds : List PyData} {vs : List V} : Dqs K F (d :: ds) vs = ∃ v r, vs = v :: r ∧ Dq K F d v ∧ Dqs K F ds r := by simp only [Dqs]
theorem dqk_nil {us : List (Key × V)} : Dqk K F [] us = (us = []) := by simp only [Dqk]
theorem dqk_cons {k d : PyData} {ds : List (PyData × PyData)} {us : List (Key × V)} : Dqk K F ((k, d) :: ds) us = ∃ z v r, us = (z, v) :: r ∧ k = kD z ∧ Dq K F d v ∧ Dqk K F ds r := by simp only [Dqk]
end

theorem _root_.L2.Same.sqT {K : PySem.W.Frag} {H H' : Hp} {a : Addr} {xs : List V} (e : Same H H') (h : SqT K H a xs) : SqT K H' a xs := by
  rcases h with (h | ⟨o, h⟩) | h
  · exact .inl (.inl (e _ _ h))
  · exact .inl (.inr ⟨o, e _ _ h⟩)
  · exact .inr h

section
variable {K : PySem.W.Frag} {F F' H H' : Hp}
mutual
theorem Dq.mono (e : Same F F') : ∀ (x : PyData) (v : V), Dq K F x v → Dq K F' x v
  | .none, _, h => h
  | .bool _, _, h => h
  | .int _, _, h => h
  | .str _, _, h => h
  | .list ds, _, h => by
    simp only [Dq] at h ⊢
    obtain ⟨a, vs, r, s, q⟩ := h
    exact ⟨a, vs, r, e.seq s, Dqs.mono e ds vs q⟩
  | .tuple ds, _, h => by
    simp only [Dq] at h ⊢
    obtain ⟨a, vs, r, s, q⟩ := h
    exact ⟨a, vs, r, e.sqT s, Dqs.mono e ds vs q⟩
  | .dict ds, _, h => by
    simp only [Dq] at h ⊢
    obtain ⟨a, us, r, s, q⟩ := h
    exact ⟨a, us, r, e _ _ s, Dqk.mono e ds us q⟩
theorem Dqs.mono (e : Same F F') : ∀ (ds : List PyData) (vs : List V), Dqs K F ds vs → Dqs K F' ds vs
  | [], _, h => h
  | d :: ds, _, h => by
    simp only [Dqs] at h ⊢
    obtain ⟨v, r, z, p, q⟩ := h
    exact ⟨v, r, z, Dq.mono e d v p, Dqs.mono e ds r q⟩
theorem Dqk.mono (e : Same F F') : ∀ (ds : List (PyData × PyData)) (us : List (Key × V)), Dqk K F ds us → Dqk K F' ds us
  | [], _, h => h
  | (k, d) :: ds, _, h => by
    simp only [Dqk] at h ⊢
    obtain ⟨z, v, r, y, g, p, q⟩ := h
    exact ⟨z, v, r, y, g, Dq.mono e d v p, Dqk.mono e ds r q⟩
end
mutual
theorem Rep.keep (e : Same F F') : ∀ (w : W) (v : V) (A : List Addr), (∀ a ∈ A, H' a = H a) → Rep K F H w v A → Rep K F' H' w v A
  | .d x, v, A, _, h => by
    simp only [Rep] at h ⊢
    exact ⟨Dq.mono e x v h.1, h.2⟩
  | .v x, v, A, _, h => h
  | .lst ws, v, A, k, h => by
    simp only [Rep] at h ⊢
    obtain ⟨a, vs, B, r, rfl, s, q⟩ := h
    exact ⟨a, vs, B, r, rfl, (k a List.mem_cons_self).trans s, Reps.keep e ws vs B (fun b hb => k b (List.mem_cons_of_mem _ hb)) q⟩
  | .dk ws, v, A, k, h => by
    simp only [Rep] at h ⊢
    obtain ⟨a, vs, B, r, rfl, s, q⟩ := h
    exact ⟨a, vs, B, r, rfl, (k a List.mem_cons_self).trans s, Repk.keep e ws vs B (fun b hb => k b (List.mem_cons_of_mem _ hb)) q⟩
  | .ins C ws, v, A, k, h => by
    simp only [Rep] at h ⊢
    obtain ⟨a, dx, vs, B, r, rfl, s, q⟩ := h
    exact ⟨a, dx, vs, B, r, rfl, (k a List.mem_cons_self).trans s, Repf.keep e ws vs B (fun b hb => k b (List.mem_cons_of_mem _ hb)) q⟩
  | .tup ws, v, A, k, h => by
    simp only [Rep] at h ⊢
    obtain ⟨a, vs, B, r, rfl, s, q⟩ := h
    exact ⟨a, vs, B, r, rfl, (k a List.mem_cons_self).trans s, Reps.keep e ws vs B (fun b hb => k b (List.mem_cons_of_mem _ hb)) q⟩
theorem Reps.keep (e : Same F F') : ∀ (ws : List W) (vs : List V) (A : List Addr), (∀ a ∈ A, H' a = H a) → Reps K F H ws vs A → Reps K F' H' ws vs A
  | [], _, _, _, h => h
  | w :: ws, vs, A, k, h => by
    simp only [Reps] at h ⊢
    obtain ⟨v, r, B, C, z, rfl, p, q⟩ := h
    exact ⟨v, r, B, C, z, rfl, Rep.keep e w v B (fun a ha => k a (List.mem_append_left _ ha)) p, Reps.keep e ws r C (fun a ha => k a (List.mem_append_right _ ha)) q⟩
theorem Repk.keep (e : Same F F') : ∀ (ws : List (Key × W)) (vs : List (Key × V)) (A : List Addr), (∀ a ∈ A, H' a = H a) → Repk K F H ws vs A → Repk K F' H' ws vs A
  | [], _, _, _, h => h
  | (_, w) :: ws, vs, A, k, h => by
    simp only [Repk] at h ⊢
    obtain ⟨v, r, B, C, z, rfl, p, q⟩ := h
    exact ⟨v, r, B, C, z, rfl, Rep.keep e w v B (fun a ha => k a (List.mem_append_left _ ha)) p, Repk.keep e ws r C (fun a ha => k a (List.mem_append_right _ ha)) q⟩
theorem Repf.keep (e : Same F F') : ∀ (ws : List (Str × W)) (vs : List (Str × V)) (A : List Addr), (∀ a ∈ A, H' a = H a) → Repf K F H ws vs A → Repf K F' H' ws vs A
  | [], _, _, _, h => h
  | (_, w) :: ws, vs, A, k, h => by
    simp only [Repf] at h ⊢
    obtain ⟨v, r, B, C, z, rfl, p, q⟩ := h
    exact ⟨v, r, B, C, z, rfl, Rep.keep e w v B (fun a ha => k a (List.mem_append_left _ ha)) p, Repf.keep e ws r C (fun a ha => k a (List.mem_append_right _ ha)) q⟩
end
end

/-! ## the state -/
/-- the entry of a def: the heap and its frozen part, what may change (the owned arguments' objects), the slots that are not stored to -/
structure Ent where
  F0 : Hp
  H0 : Hp
  M : Addr → Prop
  st0 : L2.St
  bp : List Nat

structure Sta (K : PySem.W.Frag) (E : Ent) (F : Hp) (φ : Addr → Option Nat) (ε : Env) (σ : L2.St) (H : Hp) (τ : List (W × V)) : Prop where
  ext : Same E.F0 F
  fnew : ∀ b, F b ≠ none → E.F0 b ≠ none ∨ E.H0 b = none ∨ E.M b
  sub : Same F H
  old : ∀ b o, E.H0 b = some o → ¬ E.M b → H b = some o
  pre : ∀ b, H b = none → E.H0 b = none
  own : ∀ b i, φ b = some i → F b = none ∧ H b ≠ none ∧ (E.M b ∨ E.H0 b = none)
  len : ε.length = σ.length
  fix : ∀ i ∈ E.bp, σ[i]? = E.st0[i]?
  slot : ∀ i w, ε[i]? = some (some w) → ∃ v A, σ[i]? = some (some v) ∧ Rep K F H w v A ∧ A.Nodup ∧ ∀ a ∈ A, φ a = some i
  tmp : ∀ j w v, τ[j]? = some (w, v) → ∃ A, Rep K F H w v A ∧ A.Nodup ∧ ∀ a ∈ A, φ a = some (ε.length + j)

/-- a step of the heaps: the rows R are left as they are -/
structure Stp (F : Hp) (φ : Addr → Option Nat) (H F' : Hp) (φ' : Addr → Option Nat) (H' : Hp) (R : Nat → Prop) : Prop where
  f : Same F F'
  fn : ∀ b, F' b ≠ none → F b ≠ none ∨ (∃ i, φ b = some i) ∨ H b = none
  sub : Same F' H'
  pre : ∀ b, H' b = none → H b = none
  old : ∀ b o, H b = some o → φ b = none → H' b = some o
  keep : ∀ a i, φ a = some i → R i → H' a = H a ∧ φ' a = some i
  own : ∀ b i, φ' b = some i → F' b = none ∧ H' b ≠ none ∧ ((∃ j, φ b = some j) ∨ H b = none)

section
variable {K : PySem.W.Frag} {E : Ent} {F F' H H' : Hp} {φ φ' : Addr → Option Nat} {ε ε' : Env} {σ σ' : L2.St} {τ τ' : List (W × V)} {R : Nat → Prop}
theorem Sta.step (S : Sta K E F φ ε σ H τ) (P : Stp F φ H F' φ' H' R) (len : ε'.length = σ'.length) (le : ε'.length = ε.length) (fix : ∀ i ∈ E.bp, σ'[i]? = E.st0[i]?)
    (slot : ∀ i w, ε'[i]? = some (some w) → (R i ∧ ε[i]? = some (some w) ∧ σ'[i]? = σ[i]?) ∨ ∃ v A, σ'[i]? = some (some v) ∧ Rep K F' H' w v A ∧ A.Nodup ∧ ∀ a ∈ A, φ' a = some i)
    (tmp : ∀ j w v, τ'[j]? = some (w, v) → (R (ε.length + j) ∧ τ[j]? = some (w, v)) ∨ ∃ A, Rep K F' H' w v A ∧ A.Nodup ∧ ∀ a ∈ A, φ' a = some (ε.length + j)) : Sta K E F' φ' ε' σ' H' τ' := by
  refine ⟨fun b o h => P.f b o (S.ext b o h), fun b h => ?_, P.sub, fun b o h hm => ?_, fun b h => S.pre b (P.pre b h), fun b i h => ?_, len, fix, fun i w h => ?_, fun j w v h => ?_⟩
  · rcases P.fn b h with h | ⟨i, h⟩ | h
    · exact S.fnew b h
    · rcases (S.own b i h).2.2 with z | z
      · exact .inr (.inr z)
      · exact .inr (.inl z)
    · exact .inr (.inl (S.pre b h))
  · refine P.old b o (S.old b o h hm) ?_
    cases q : φ b with
    | none => rfl
    | some i =>
      rcases (S.own b i q).2.2 with z | z
      · exact absurd z hm
      · rw [h] at z; cases z
  · obtain ⟨h1, h2, h3⟩ := P.own b i h
    refine ⟨h1, h2, ?_⟩
    rcases h3 with ⟨j, h3⟩ | h3
    · exact (S.own b j h3).2.2
    · exact .inr (S.pre b h3)
  · rcases slot i w h with ⟨r, e, s⟩ | z
    · obtain ⟨v, A, h1, h2, h3, h4⟩ := S.slot i w e
      exact ⟨v, A, s.trans h1, Rep.keep P.f w v A (fun a ha => (P.keep a i (h4 a ha) r).1) h2, h3, fun a ha => (P.keep a i (h4 a ha) r).2⟩
    · exact z
  · rw [le]
    rcases tmp j w v h with ⟨r, e⟩ | z
    · obtain ⟨A, h2, h3, h4⟩ := S.tmp j w v e
      exact ⟨A, Rep.keep P.f w v A (fun a ha => (P.keep a _ (h4 a ha) r).1) h2, h3, fun a ha => (P.keep a _ (h4 a ha) r).2⟩
    · exact z
theorem Stp.refl (sub : Same F H) (own : ∀ b i, φ b = some i → F b = none ∧ H b ≠ none) : Stp F φ H F φ H fun _ => True :=
  ⟨Same.refl _, fun _ h => .inl h, sub, fun _ h => h, fun _ _ h _ => h, fun _ _ h _ => ⟨rfl, h⟩, fun b i h => ⟨(own b i h).1, (own b i h).2, .inl ⟨i, h⟩⟩⟩
end

section
variable {K : PySem.W.Frag} {E : Ent} {F F' H H' : Hp} {φ φ' : Addr → Option Nat} {ε ε' : Env} {σ σ' : L2.St} {τ τ' : List (W × V)}
theorem getE_app {α : Type} {l : List α} {x y : α} {j : Nat} (h : (l ++ [x])[j]? = some y) : l[j]? = some y ∨ (j = l.length ∧ y = x) := by
  by_cases hj : j < l.length
  · rw [List.getElem?_append_left hj] at h
    exact .inl h
  · rw [List.getElem?_append_right (by omega)] at h
    have e : j - l.length = 0 := by
      cases q : j - l.length with
      | zero => rfl
      | succ n => rw [q] at h; simp at h
    rw [e] at h
    simp at h
    exact .inr ⟨by omega, h.symm⟩
theorem getE_left {α : Type} {l r : List α} {y : α} {j : Nat} (h : l[j]? = some y) : (l ++ r)[j]? = some y := by
  obtain ⟨hj, _⟩ := List.getElem?_eq_some_iff.mp h
  rw [List.getElem?_append_left hj]
  exact h
theorem getE_last {α : Type} {l : List α} {x : α} : (l ++ [x])[l.length]? = some x := by
  rw [List.getElem?_append_right (Nat.le_refl _)]
  simp

/-- the topmost rows are forgotten -/
theorem Sta.drop {r : List (W × V)} (S : Sta K E F φ ε σ H (τ ++ r)) : Sta K E F φ ε σ H τ :=
  { S with tmp := fun j w v h => S.tmp j w v (getE_left h) }
/-- a result that stands by itself: a datum that is there, or a new object -/
inductive New (K : PySem.W.Frag) (F H : Hp) : W → V → Hp → Hp → Prop
  | pure {x : PyData} {v : V} : Dq K F x v → New K F H (.d x) v F H
  | raw {x : V} : New K F H (.v x) x F H
  | lst {p : Addr} {ds : List PyData} {vs : List V} : H p = none → Dqs K F ds vs → New K F H (.lst (ds.map W.d)) (.ref p) F (upd H p (.lst vs))
  | tup {p : Addr} {ds : List PyData} {vs : List V} : H p = none → Dqs K F ds vs → New K F H (.d (.tuple ds)) (.ref p) (upd F p (.tup vs)) (upd H p (.tup vs))
  | dk {p : Addr} {us : List (Key × V)} {ds : List (Key × PyData)} : H p = none → Dqk K F (ds.map fun q => (kD q.1, q.2)) us → us.map (·.1) = ds.map (·.1) → New K F H (.dk (ds.map fun q => (q.1, W.d q.2))) (.ref p) F (upd H p (.dK us))

theorem Reps.ofD {K : PySem.W.Frag} {F H : Hp} : ∀ {ds : List PyData} {vs : List V}, Dqs K F ds vs → Reps K F H (ds.map W.d) vs []
  | [], _, h => by
    simp only [Dqs] at h
    rw [List.map_nil, reps_nil]
    exact ⟨h, rfl⟩
  | d :: ds, _, h => by
    simp only [Dqs] at h
    obtain ⟨v, r, e, p, q⟩ := h
    rw [List.map_cons, reps_cons]
    exact ⟨v, r, [], [], e, rfl, by rw [rep_d]; exact ⟨p, rfl⟩, Reps.ofD q⟩
theorem Reps.toD {K : PySem.W.Frag} {F H : Hp} : ∀ {ds : List PyData} {vs : List V} {A : List Addr}, Reps K F H (ds.map W.d) vs A → Dqs K F ds vs ∧ A = []
  | [], _, _, h => by
    rw [List.map_nil, reps_nil] at h
    rw [dqs_nil]
    exact h
  | d :: ds, _, _, h => by
    rw [List.map_cons, reps_cons] at h
    obtain ⟨v, r, B, C, e, rfl, p, q⟩ := h
    obtain ⟨q2, rfl⟩ := Reps.toD q
    rw [dqs_cons]
    rw [rep_d] at p
    exact ⟨⟨v, r, e, p.1, q2⟩, by rw [p.2]; rfl⟩
theorem Repk.ofD {K : PySem.W.Frag} {F H : Hp} : ∀ {ds : List (Key × PyData)} {us : List (Key × V)}, Dqk K F (ds.map fun q => (kD q.1, q.2)) us → us.map (·.1) = ds.map (·.1) → Repk K F H (ds.map fun q => (q.1, W.d q.2)) us []
  | [], _, h, _ => by
    simp only [List.map_nil, Dqk] at h
    rw [List.map_nil, repk_nil]
    exact ⟨h, rfl⟩
  | (k, d) :: ds, _, h, e => by
    simp only [List.map_cons, Dqk] at h
    obtain ⟨z, v, r, rfl, g, p, q⟩ := h
    rw [List.map_cons, List.map_cons] at e
    injection e with e1 e2
    have e1 : z = k := e1
    subst e1
    rw [List.map_cons, repk_cons]
    exact ⟨v, r, [], [], rfl, rfl, by rw [rep_d]; exact ⟨p, rfl⟩, Repk.ofD q e2⟩

theorem New.rep {K : PySem.W.Frag} {w : W} {v : V} (sub : Same F H) (n : New K F H w v F' H') : Same F F' ∧ Same F' H' ∧ (∀ b, F' b ≠ none → F b ≠ none ∨ H b = none) ∧ (∀ b, H' b = none → H b = none) ∧ (∀ b o, H b = some o → H' b = some o) ∧
    ∃ A, Rep K F' H' w v A ∧ A.Nodup ∧ ∀ a ∈ A, F' a = none ∧ H' a ≠ none ∧ H a = none := by
  have fN : ∀ b, H b = none → F b = none := fun b h => sub.free h
  have uN : ∀ (p : Addr) (o : HO), H p = none → (∀ b, upd H p o b = none → H b = none) ∧ (∀ b o', H b = some o' → upd H p o b = some o') := fun p o hp => ⟨fun b h => by
    by_cases e : b = p
    · rw [e]; exact hp
    · rw [upd_ne e] at h; exact h, fun b o' h => by rw [upd_ne (ne_of_none h hp)]; exact h⟩
  cases n with
  | pure h => exact ⟨Same.refl _, sub, fun b h => .inl h, fun _ h => h, fun _ _ h => h, [], by rw [rep_d]; exact ⟨h, rfl⟩, List.nodup_nil, fun a h => nomatch h⟩
  | raw => exact ⟨Same.refl _, sub, fun b h => .inl h, fun _ h => h, fun _ _ h => h, [], by rw [rep_v]; exact ⟨rfl, rfl⟩, List.nodup_nil, fun a h => nomatch h⟩
  | @lst p ds vs hp h =>
    refine ⟨Same.refl _, fun b o e => (uN p _ hp).2 b o (sub b o e), fun b h => .inl h, (uN p _ hp).1, (uN p _ hp).2, [p], ?_, by simp, fun a ha => ?_⟩
    · rw [rep_lst]
      exact ⟨p, vs, [], rfl, rfl, upd_same, Reps.ofD h⟩
    · have e : a = p := by simpa using ha
      subst e
      exact ⟨fN _ hp, by rw [upd_same]; simp, hp⟩
  | @tup p ds vs hp h =>
    have s1 : Same F (upd F p (.tup vs)) := fun b o e => by rw [upd_ne (ne_of_none e (fN p hp))]; exact e
    refine ⟨s1, fun b o e => ?_, fun b h => ?_, (uN p _ hp).1, (uN p _ hp).2, [], ?_, List.nodup_nil, fun a h => nomatch h⟩
    · by_cases z : b = p
      · subst z
        rw [upd_same] at e ⊢
        exact e
      · rw [upd_ne z] at e ⊢
        exact sub b o e
    · by_cases z : b = p
      · subst z; exact .inr hp
      · rw [upd_ne z] at h; exact .inl h
    · rw [rep_d, dq_tup]
      exact ⟨⟨p, vs, rfl, SqT.of upd_same, Dqs.mono s1 _ _ h⟩, rfl⟩
  | @dk p us ds hp h hk =>
    refine ⟨Same.refl _, fun b o e => (uN p _ hp).2 b o (sub b o e), fun b h => .inl h, (uN p _ hp).1, (uN p _ hp).2, [p], ?_, by simp, fun a ha => ?_⟩
    · rw [rep_dk]
      exact ⟨p, us, [], rfl, rfl, upd_same, Repk.ofD h hk⟩
    · have e : a = p := by simpa using ha
      subst e
      exact ⟨fN _ hp, by rw [upd_same]; simp, hp⟩

/-- a result that stands by itself comes on top -/
theorem Sta.push {w : W} {v : V} (S : Sta K E F φ ε σ H τ) (s1 : Same F F') (s2 : Same F' H') (fn : ∀ b, F' b ≠ none → F b ≠ none ∨ H b = none) (pre : ∀ b, H' b = none → H b = none) (old : ∀ b o, H b = some o → H' b = some o)
    {A : List Addr} (r : Rep K F' H' w v A) (nd : A.Nodup) (hA : ∀ a ∈ A, F' a = none ∧ H' a ≠ none ∧ H a = none) : ∃ φ', Sta K E F' φ' ε σ H' (τ ++ [(w, v)]) := by
  have nA : ∀ a i, φ a = some i → a ∉ A := fun a i h z => (S.own a i h).2.1 (hA a z).2.2
  refine ⟨fun a => if a ∈ A then some (ε.length + τ.length) else φ a, S.step (R := fun _ => True) ⟨s1, fun b h => ?_, s2, pre, fun b o h _ => old b o h, fun a i h _ => ⟨?_, ?_⟩, fun b i h => ?_⟩ S.len rfl S.fix (fun i w h => .inl ⟨True.intro, h, rfl⟩) (fun j w' v' h => ?_)⟩
  · rcases fn b h with h | h
    · exact .inl h
    · exact .inr (.inr h)
  · cases q : H a with
    | none => exact absurd q (S.own a i h).2.1
    | some o => exact old a o q
  · show (if a ∈ A then some (ε.length + τ.length) else φ a) = some i
    rw [if_neg (nA a i h)]
    exact h
  · by_cases z : b ∈ A
    · exact ⟨(hA b z).1, (hA b z).2.1, .inr (hA b z).2.2⟩
    · have h : (if b ∈ A then some (ε.length + τ.length) else φ b) = some i := h
      rw [if_neg z] at h
      refine ⟨?_, fun q => (S.own b i h).2.1 (pre b q), .inl ⟨i, h⟩⟩
      cases q : F' b with
      | none => rfl
      | some o =>
        rcases fn b (by rw [q]; simp) with y | y
        · exact absurd (S.own b i h).1 y
        · exact absurd y (S.own b i h).2.1
  · rcases getE_app h with h | ⟨rfl, e⟩
    · exact .inl ⟨True.intro, h⟩
    · cases e
      exact .inr ⟨A, r, nd, fun a ha => by show (if a ∈ A then some (ε.length + τ.length) else φ a) = _; rw [if_pos ha]⟩
theorem Sta.new {w : W} {v : V} (S : Sta K E F φ ε σ H τ) (n : New K F H w v F' H') : ∃ φ', Sta K E F' φ' ε σ H' (τ ++ [(w, v)]) := by
  obtain ⟨s1, s2, fn, pre, old, A, r, nd, hA⟩ := n.rep S.sub
  exact S.push s1 s2 fn pre old r nd hA
theorem Sta.pushD {x : PyData} {v : V} (S : Sta K E F φ ε σ H τ) (h : Dq K F x v) : ∃ φ', Sta K E F φ' ε σ H (τ ++ [(.d x, v)]) := S.new (New.pure h)
end
end Ab

namespace Ab
open PySem PySem.Spec PyProof.Rows L2

/-! ## what an expression hands on -/
inductive EV where
  | v (w : W)
  | sl (i : Nat)
  | fl (i : Nat) (p : List Str) (u : V) (w : W)

def evT (rv : EV) (v : V) (τ : List (W × V)) : List (W × V) := match rv with
  | .v w => τ ++ [(w, v)]
  | .sl _ => τ
  | .fl _ _ _ w => τ ++ [(w, v)]
def evOk (rv : EV) (σ : L2.St) (v : V) : Prop := match rv with
  | .v _ => True
  | .sl i => σ[i]? = some (some v)
  | .fl _ _ u _ => u = v
/-- its content -/
def cnt (ε : Env) : EV → Option W
  | .v w => some w
  | .sl i => (ε[i]?).join
  | .fl _ _ _ w => some w

/-! ## parts of a tree, by fields -/
def putW (f : Str) (x : W) : List (Str × W) → List (Str × W)
  | [] => [(f, x)]
  | (g, y) :: r => if g = f then (g, x) :: r else (g, y) :: putW f x r
def getP : W → List Str → Option W
  | w, [] => some w
  | .ins _ fs, f :: p => (fs.lookup f).bind fun w => getP w p
  | _, _ => none
def putP : W → List Str → W → W
  | _, [], x => x
  | .ins C fs, f :: p, x => match fs.lookup f with
    | some w => .ins C (putW f (putP w p x) fs)
    | none => .ins C fs
  | w, _, _ => w
section
variable {K : PySem.W.Frag} {F H : Hp}
theorem Repf.part {f : Str} {w0 : W} : ∀ {fs : List (Str × W)} {us : List (Str × V)} {A : List Addr}, Repf K F H fs us A → fs.lookup f = some w0 →
    ∃ u P B S, A = P ++ B ++ S ∧ us.lookup f = some u ∧ Rep K F H w0 u B ∧ ∀ w B', Rep K F H w u B' → Repf K F H (putW f w fs) us (P ++ B' ++ S)
  | [], _, _, _, e => by cases e
  | (g, y) :: r, us, A, h, e => by
    rw [repf_cons] at h
    obtain ⟨v, us', B, C, rfl, rfl, p, q⟩ := h
    rw [List.lookup_cons] at e
    by_cases hg : g = f
    · subst hg
      rw [show (g == g) = true from beq_self_eq_true g] at e
      have e : some y = some w0 := e
      cases e
      refine ⟨v, [], B, C, rfl, by rw [List.lookup_cons, show (g == g) = true from beq_self_eq_true g], p, fun w B' hw => ?_⟩
      unfold putW
      rw [if_pos rfl, repf_cons]
      exact ⟨v, us', B', C, rfl, rfl, hw, q⟩
    · have hb : (f == g) = false := beq_eq_false_iff_ne.mpr fun z => hg z.symm
      rw [hb] at e
      have e : r.lookup f = some w0 := e
      obtain ⟨u, P, B2, S, rfl, l, p2, k⟩ := Repf.part q e
      refine ⟨u, B ++ P, B2, S, by simp only [List.append_assoc], by rw [List.lookup_cons, hb]; exact l, p2, fun w B' hw => ?_⟩
      unfold putW
      rw [if_neg hg, repf_cons]
      exact ⟨v, us', B, P ++ B' ++ S, rfl, by simp only [List.append_assoc], p, k w B' hw⟩
theorem Rep.part : ∀ {p : List Str} {r w0 : W} {v : V} {A : List Addr}, Rep K F H r v A → getP r p = some w0 →
    ∃ u P B S, A = P ++ B ++ S ∧ Rep K F H w0 u B ∧ ∀ w B', Rep K F H w u B' → Rep K F H (putP r p w) v (P ++ B' ++ S)
  | [], r, w0, v, A, h, e => by
    have e : some r = some w0 := by unfold getP at e; exact e
    cases e
    refine ⟨v, [], A, [], by simp, h, fun w B' hw => ?_⟩
    unfold putP
    simpa using hw
  | f :: p, .ins C fs, w0, v, A, h, e => by
    have e : (fs.lookup f).bind (fun w => getP w p) = some w0 := by unfold getP at e; exact e
    cases hl : fs.lookup f with
    | none => rw [hl] at e; cases e
    | some w1 =>
      rw [hl] at e
      have e : getP w1 p = some w0 := e
      rw [rep_ins] at h
      obtain ⟨a, dx, us, B, rfl, rfl, ha, q⟩ := h
      obtain ⟨u1, P1, B1, S1, rfl, l1, r1, k1⟩ := q.part hl
      obtain ⟨u, P, B, S, rfl, r2, k2⟩ := r1.part e
      refine ⟨u, a :: (P1 ++ P), B, S ++ S1, by simp only [List.append_assoc, List.cons_append], r2, fun w B' hw => ?_⟩
      have z := k1 _ _ (k2 w B' hw)
      unfold putP
      simp only [hl]
      rw [rep_ins]
      exact ⟨a, dx, us, P1 ++ (P ++ B' ++ S) ++ S1, rfl, by simp only [List.append_assoc, List.cons_append], ha, z⟩
  | f :: p, .d _, w0, v, A, h, e => by unfold getP at e; cases e
  | f :: p, .v _, w0, v, A, h, e => by unfold getP at e; cases e
  | f :: p, .lst _, w0, v, A, h, e => by unfold getP at e; cases e
  | f :: p, .dk _, w0, v, A, h, e => by unfold getP at e; cases e
end

/-- the place takes its content back -/
def bck : EV → Env → Option Env
  | .v _, ε => some ε
  | .sl _, ε => some ε
  | .fl i p u w, ε => match ε[i]? with
    | some (some r) => match getP r p with
      | some (.v z) => if z = u then some (ε.set i (some (putP r p w))) else none
      | _ => none
    | _ => none

section
variable {K : PySem.W.Frag} {E : Ent} {F F' H H' : Hp} {φ φ' : Addr → Option Nat} {ε ε' : Env} {σ σ' : L2.St} {τ τ' : List (W × V)} {rv : EV} {v : V} {w : W}
theorem join_some {α : Type} {o : Option (Option α)} {x : α} (h : o.join = some x) : o = some (some x) := by
  cases o with
  | none => cases h
  | some y => cases y with
    | none => cases h
    | some z => cases h; rfl
theorem Sta.view (S : Sta K E F φ ε σ H (evT rv v τ)) (ok : evOk rv σ v) (c : cnt ε rv = some w) : ∃ A, Rep K F H w v A ∧ A.Nodup ∧ ∀ a ∈ A, ∃ i, φ a = some i := by
  cases rv with
  | v w' =>
    have c : some w' = some w := c
    cases c
    obtain ⟨A, r, nd, h⟩ := S.tmp τ.length w v getE_last
    exact ⟨A, r, nd, fun a ha => ⟨_, h a ha⟩⟩
  | sl i =>
    obtain ⟨u, A, e, r, nd, h⟩ := S.slot i w (join_some c)
    have ok : σ[i]? = some (some v) := ok
    rw [ok] at e
    cases e
    exact ⟨A, r, nd, fun a ha => ⟨_, h a ha⟩⟩
  | fl i p u w' =>
    have c : some w' = some w := c
    cases c
    obtain ⟨A, r, nd, h⟩ := S.tmp τ.length w v getE_last
    exact ⟨A, r, nd, fun a ha => ⟨_, h a ha⟩⟩
/-- .. below another one -/
theorem Sta.view2 {rv2 : EV} {v2 : V} (S : Sta K E F φ ε σ H (evT rv2 v2 (evT rv v τ))) (ok : evOk rv σ v) (c : cnt ε rv = some w) : ∃ A, Rep K F H w v A ∧ A.Nodup ∧ ∀ a ∈ A, ∃ i, φ a = some i := by
  have S1 : Sta K E F φ ε σ H (evT rv v τ) := by
    cases rv2 with
    | v w' => exact Sta.drop (r := [(w', v2)]) S
    | sl i => exact S
    | fl i p u w' => exact Sta.drop (r := [(w', v2)]) S
  exact S1.view ok c
theorem nodup_mid {α : Type} {P B S : List α} (h : (P ++ B ++ S).Nodup) : (P ++ S).Nodup ∧ B.Nodup ∧ ∀ a ∈ B, a ∉ P ∧ a ∉ S := by
  rw [List.append_assoc, List.nodup_append] at h
  obtain ⟨h1, h2, h3⟩ := h
  rw [List.nodup_append] at h2
  obtain ⟨h4, h5, h6⟩ := h2
  refine ⟨?_, h4, fun a ha => ⟨fun z => ?_, fun z => ?_⟩⟩
  · rw [List.nodup_append]
    exact ⟨h1, h5, fun a ha b hb => h3 a ha b (List.mem_append_right _ hb)⟩
  · exact h3 a z a (List.mem_append_left _ ha) rfl
  · exact h6 a ha a z rfl
theorem mid_nodup {α : Type} {P B S : List α} (h : (P ++ S).Nodup) (hB : B.Nodup) (hd : ∀ a ∈ B, a ∉ P ∧ a ∉ S) : (P ++ B ++ S).Nodup := by
  rw [List.nodup_append] at h
  obtain ⟨h1, h2, h3⟩ := h
  rw [List.append_assoc, List.nodup_append]
  refine ⟨h1, List.nodup_append.mpr ⟨hB, h2, fun a ha b hb e => (hd a ha).2 (e ▸ hb)⟩, fun a ha b hb e => ?_⟩
  rcases List.mem_append.mp hb with z | z
  · exact (hd b z).1 (e ▸ ha)
  · exact h3 a ha b z e
theorem set_get {α : Type} {l : List α} {i j : Nat} {x y : α} (h : (l.set i x)[j]? = some y) : (j = i ∧ y = x) ∨ (j ≠ i ∧ l[j]? = some y) := by
  by_cases e : j = i
  · subst e
    by_cases hj : j < l.length
    · rw [List.getElem?_set_self hj] at h
      cases h
      exact .inl ⟨rfl, rfl⟩
    · rw [List.getElem?_eq_none (by rw [List.length_set]; omega)] at h
      cases h
  · rw [List.getElem?_set_ne (Ne.symm e)] at h
    exact .inr ⟨e, h⟩
/-- the heaps stay, rows change hands -/
theorem Stp.tag {R : Nat → Prop} (S : Sta K E F φ ε σ H τ) (hk : ∀ a i, φ a = some i → R i → φ' a = some i) (ho : ∀ a i, φ' a = some i → ∃ j, φ a = some j) : Stp F φ H F φ' H R :=
  ⟨Same.refl _, fun _ h => .inl h, S.sub, fun _ h => h, fun _ _ h _ => h, fun a i h r => ⟨rfl, hk a i h r⟩, fun b i h => by
    obtain ⟨j, z⟩ := ho b i h
    exact ⟨(S.own b j z).1, (S.own b j z).2.1, .inl ⟨j, z⟩⟩⟩
theorem Sta.back (S : Sta K E F φ ε σ H (evT rv v τ)) (ok : evOk rv σ v) (c : bck rv ε = some ε') : ∃ φ', Sta K E F φ' ε' σ H τ := by
  cases rv with
  | v w' =>
    have c : some ε = some ε' := c
    cases c
    exact ⟨φ, Sta.drop (r := [(w', v)]) S⟩
  | sl i =>
    have c : some ε = some ε' := c
    cases c
    exact ⟨φ, S⟩
  | fl i p u w' =>
    have ok : u = v := ok
    subst ok
    unfold bck at c
    cases e1 : ε[i]? with
    | none => simp only [e1] at c; cases c
    | some o => cases o with
      | none => simp only [e1] at c; cases c
      | some r =>
        simp only [e1] at c
        cases e2 : getP r p with
        | none => simp only [e2] at c; cases c
        | some z => cases z with
          | v z =>
            simp only [e2] at c
            by_cases hz : z = u
            · subst hz
              rw [if_pos rfl] at c
              cases c
              obtain ⟨vr, A, es, rr, nd, hA⟩ := S.slot i r e1
              obtain ⟨u', P, B, T, rfl, r0, k⟩ := rr.part e2
              rw [rep_v] at r0
              obtain ⟨rfl, rfl⟩ := r0
              obtain ⟨B', rw', nd', hB⟩ := S.tmp τ.length w' u' getE_last
              have S' : Sta K E F φ ε σ H τ := Sta.drop (r := [(w', u')]) S
              obtain ⟨hi, _⟩ := List.getElem?_eq_some_iff.mp e1
              have hne : i ≠ ε.length + τ.length := by omega
              refine ⟨fun a => if a ∈ B' then some i else φ a, S'.step (R := fun k => k ≠ i ∧ k ≠ ε.length + τ.length) (Stp.tag S' (fun a j h hj => ?_) (fun a j h => ?_)) (by rw [List.length_set]; exact S.len) (List.length_set ..) S.fix (fun j w h => ?_) (fun j w v h => ?_)⟩
              · show (if a ∈ B' then some i else φ a) = some j
                rw [if_neg (fun z => hj.2 (Option.some.inj ((h.symm.trans (hB a z)))))]
                exact h
              · have h : (if a ∈ B' then some i else φ a) = some j := h
                by_cases z : a ∈ B'
                · exact ⟨_, hB a z⟩
                · rw [if_neg z] at h; exact ⟨j, h⟩
              · rcases set_get h with ⟨rfl, e⟩ | ⟨ne, h⟩
                · cases e
                  refine .inr ⟨vr, _, es, k w' B' rw', mid_nodup (by simpa using nd) nd' fun a ha => ?_, fun a ha => ?_⟩
                  · have q := hB a ha
                    exact ⟨fun z => hne (Option.some.inj ((hA a (by simp [z])).symm.trans q)), fun z => hne (Option.some.inj ((hA a (by simp [z])).symm.trans q))⟩
                  · show (if a ∈ B' then some j else φ a) = some j
                    by_cases z : a ∈ B'
                    · rw [if_pos z]
                    · rw [if_neg z]
                      refine hA a ?_
                      rcases List.mem_append.mp ha with y | y
                      · rcases List.mem_append.mp y with y | y
                        · simp [y]
                        · exact absurd y z
                      · simp [y]
                · obtain ⟨hj, _⟩ := List.getElem?_eq_some_iff.mp h
                  exact .inl ⟨⟨ne, by omega⟩, h, rfl⟩
              · obtain ⟨hj, _⟩ := List.getElem?_eq_some_iff.mp h
                exact .inl ⟨⟨by omega, by omega⟩, h⟩
            · rw [if_neg hz] at c; cases c
          | d _ => simp only [e2] at c; cases c
          | lst _ => simp only [e2] at c; cases c
          | dk _ => simp only [e2] at c; cases c
          | ins _ _ => simp only [e2] at c; cases c
          | tup _ => simp only [e2] at c; cases c
end

/-! ## the judgements -/
abbrev TEA := Env → (EV → Env → Prop) → Prop
abbrev TTA := Env → (Bool → Env → Prop) → Prop
abbrev TAA := Env → (List EV → Env → Prop) → Prop

structure AE (X : Cx) (e : Expr) (t : TEA) : Prop where
  ex : ∃ tH : TE, PE X e tH ∧ ∀ (E : Ent) F φ ε σ H τ (Q : EV → Env → Prop) (QH : VK), Sta X.K E F φ ε σ H τ → t ε Q →
    (∀ rv v F' φ' ε' H', Sta X.K E F' φ' ε' σ H' (evT rv v τ) → evOk rv σ v → Q rv ε' → QH v H') → tH σ H QH
structure AT (X : Cx) (e : Expr) (t : TTA) : Prop where
  ex : ∃ tH : TT, PT X e tH ∧ ∀ (E : Ent) F φ ε σ H τ (Q : Bool → Env → Prop) (QH : Bool → Hp → Prop), Sta X.K E F φ ε σ H τ → t ε Q →
    (∀ b F' φ' ε' H', Sta X.K E F' φ' ε' σ H' τ → Q b ε' → QH b H') → tH σ H QH
structure AW (X : Cx) (e : Expr) (t : TTA) : Prop where
  ex : ∃ tH : TT, PW X e tH ∧ ∀ (E : Ent) F φ ε σ H τ (Q : Bool → Env → Prop) (QH : Bool → Hp → Prop), Sta X.K E F φ ε σ H τ → t ε Q →
    (∀ b F' φ' ε' H', Sta X.K E F' φ' ε' σ H' τ → Q b ε' → QH b H') → tH σ H QH
theorem AW.at {X : Cx} {e : Expr} {t : TTA} (h : AW X e t) : AT X e t := let ⟨tH, p, q⟩ := h.ex; ⟨tH, p.pt, q⟩

section
variable {X : Cx} {a b c e : Expr} {ta tb tc : TEA} {pos : Pos}

/-! ### names, constants -/
def rdW : W → Nat → EV
  | .d x, _ => .v (.d x)
  | .v x, _ => .v (.v x)
  | _, i => .sl i
def tVar (i : Nat) : TEA := fun ε Q => ∃ w, ε[i]? = some (some w) ∧ Q (rdW w i) ε
theorem av (i : Nat) {x : Str} (hN : X.N[i]? = some x := by rfl) (hv : Vis X.env.scope x := by first | exact Or.inl rfl | exact Or.inr (Or.inl rfl) | exact Or.inr (Or.inr rfl)) (hd : (x == ("__debug__" : Str)) = false := by decide)
    (hcd : (x == ("__classdict__" : Str)) = false := by decide) : AE X (.Name x pos) (tVar i) := by
  refine ⟨L2.tVar i, pe_var hN hv hd hcd, fun E F φ ε σ H τ Q QH S h k => ?_⟩
  obtain ⟨w, e, h⟩ := h
  obtain ⟨v, A, es, r, nd, hA⟩ := S.slot i w e
  refine ⟨v, es, ?_⟩
  cases w with
  | d x =>
    rw [rep_d] at r
    obtain ⟨φ', S'⟩ := S.pushD r.1
    exact k (.v (.d x)) v F φ' ε H S' True.intro h
  | v x =>
    rw [rep_v] at r
    obtain ⟨φ', S'⟩ := S.new (New.raw (x := x))
    rw [← r.1] at S'
    rw [← r.1] at h
    exact k (.v (.v v)) v F φ' ε H S' True.intro h
  | lst ws => exact k (.sl i) v F φ ε H S es h
  | dk ws => exact k (.sl i) v F φ ε H S es h
  | ins C ws => exact k (.sl i) v F φ ε H S es h
  | tup ws => exact k (.sl i) v F φ ε H S es h
def tK (w : W) : TEA := fun ε Q => Q (.v w) ε
theorem ae_int {i : Int} {j} : AE X (.Constant (.int i) j pos) (tK (.d (.int i))) := ⟨_, pe_int, fun E F φ ε σ H τ Q QH S h k => by
  obtain ⟨φ', S'⟩ := S.pushD (x := .int i) (v := .int i) (by rw [dq_int])
  exact k (.v (.d (.int i))) _ F φ' ε H S' True.intro h⟩
theorem ae_bl {i : Bool} {j} : AE X (.Constant (.bool i) j pos) (tK (.d (.bool i))) := ⟨_, pe_bl, fun E F φ ε σ H τ Q QH S h k => by
  obtain ⟨φ', S'⟩ := S.pushD (x := .bool i) (v := .bl i) (by rw [dq_bool])
  exact k (.v (.d (.bool i))) _ F φ' ε H S' True.intro h⟩
theorem ae_non {j} : AE X (.Constant .none j pos) (tK (.d .none)) := ⟨_, pe_non, fun E F φ ε σ H τ Q QH S h k => by
  obtain ⟨φ', S'⟩ := S.pushD (x := .none) (v := .non) (by rw [dq_none])
  exact k (.v (.d (.none))) _ F φ' ε H S' True.intro h⟩
theorem ae_str {x : Str} {j} : AE X (.Constant (.str x) j pos) (tK (.d (.str x))) := ⟨_, pe_str, fun E F φ ε σ H τ Q QH S h k => by
  obtain ⟨φ', S'⟩ := S.pushD (x := .str x) (v := .str x) (by rw [dq_str])
  exact k (.v (.d (.str x))) _ F φ' ε H S' True.intro h⟩
/-- a module's constant that is a datum -/
theorem ae_glob {x : Str} {u : Value} {y : V} {d : PyData} (hg : Gl X x) (hm : X.mg x = some u) (r : RelV y u) (hq : ∀ F, Dq X.K F d y) (hd : (x == ("__debug__" : Str)) = false := by decide) : AE X (.Name x pos) (tK (.d d)) :=
  ⟨_, pe_glob hg hm r hd, fun E F φ ε σ H τ Q QH S h k => by
    obtain ⟨φ', S'⟩ := S.pushD (hq F)
    exact k (.v (.d d)) _ F φ' ε H S' True.intro h⟩
/-- .. a def, a class -/
theorem ae_globV {x : Str} {u : Value} {y : V} (hg : Gl X x) (hm : X.mg x = some u) (r : RelV y u) (hd : (x == ("__debug__" : Str)) = false := by decide) : AE X (.Name x pos) (tK (.v y)) :=
  ⟨_, pe_glob hg hm r hd, fun E F φ ε σ H τ Q QH S h k => by
    obtain ⟨φ', S'⟩ := S.new (New.raw (x := y))
    exact k (.v (.v y)) _ F φ' ε H S' True.intro h⟩

/-! ### operators, by the contents -/
structure OpA (X : Cx) (f : Value → Value → Sem Value) (R : W → W → W → Prop) : Prop where
  ex : ∃ r : R2, OpR X f r ∧ ∀ F H wx wy vx vy A B res (QH : VK), Same F H → Rep X.K F H wx vx A → Rep X.K F H wy vy B → R wx wy res → (∀ v F' H', New X.K F H res v F' H' → QH v H') → r vx vy H QH
theorem OpA.or {f : Value → Value → Sem Value} {R R' : W → W → W → Prop} (h : OpA X f R) (h' : OpA X f R') : OpA X f fun x y z => R x y z ∨ R' x y z := by
  obtain ⟨r, p, q⟩ := h.ex
  obtain ⟨r', p', q'⟩ := h'.ex
  refine ⟨_, p.or p', fun F H wx wy vx vy A B res QH s rx ry hr k => ?_⟩
  rcases hr with hr | hr
  · exact .inl (q F H wx wy vx vy A B res QH s rx ry hr k)
  · exact .inr (q' F H wx wy vx vy A B res QH s rx ry hr k)
def tBin (R : W → W → W → Prop) (ta tb : TEA) : TEA := fun ε Q => ta ε fun x ε1 => tb ε1 fun y ε2 => ∃ wx wy r ε3 ε4, cnt ε2 x = some wx ∧ cnt ε2 y = some wy ∧ bck y ε2 = some ε3 ∧ bck x ε3 = some ε4 ∧ R wx wy r ∧ Q (.v r) ε4
theorem bin_core {f : Value → Value → Sem Value} {R : W → W → W → Prop} {r : R2} (q : ∀ F H wx wy vx vy A B res (QH : VK), Same F H → Rep X.K F H wx vx A → Rep X.K F H wy vy B → R wx wy res → (∀ v F' H', New X.K F H res v F' H' → QH v H') → r vx vy H QH)
    {tHa tHb : TE} (pa : ∀ (E : Ent) F φ ε σ H τ (Q : EV → Env → Prop) (QH : VK), Sta X.K E F φ ε σ H τ → ta ε Q → (∀ rv v F' φ' ε' H', Sta X.K E F' φ' ε' σ H' (evT rv v τ) → evOk rv σ v → Q rv ε' → QH v H') → tHa σ H QH)
    (pb : ∀ (E : Ent) F φ ε σ H τ (Q : EV → Env → Prop) (QH : VK), Sta X.K E F φ ε σ H τ → tb ε Q → (∀ rv v F' φ' ε' H', Sta X.K E F' φ' ε' σ H' (evT rv v τ) → evOk rv σ v → Q rv ε' → QH v H') → tHb σ H QH)
    {E : Ent} {F φ ε σ H τ} {Q : EV → Env → Prop} {QH : VK} (S : Sta X.K E F φ ε σ H τ) (h : tBin R ta tb ε Q) (k : ∀ rv v F' φ' ε' H', Sta X.K E F' φ' ε' σ H' (evT rv v τ) → evOk rv σ v → Q rv ε' → QH v H') : tOp r tHa tHb σ H QH := by
  refine pa E F φ ε σ H τ _ _ S h fun x vx F1 φ1 ε1 H1 S1 ok1 h1 => ?_
  refine pb E F1 φ1 ε1 σ H1 (evT x vx τ) _ _ S1 h1 fun y vy F2 φ2 ε2 H2 S2 ok2 h2 => ?_
  obtain ⟨wx, wy, rr, ε3, ε4, cx, cy, by_, bx, hr, hq⟩ := h2
  obtain ⟨A, rx, _, _⟩ := S2.view2 ok1 cx
  obtain ⟨B, ry, _, _⟩ := S2.view ok2 cy
  obtain ⟨φ3, S3⟩ := S2.back ok2 by_
  obtain ⟨φ4, S4⟩ := S3.back ok1 bx
  refine q F2 H2 wx wy vx vy A B rr QH S2.sub rx ry hr fun v F' H' n => ?_
  obtain ⟨φ5, S5⟩ := S4.new n
  exact k (.v rr) v F' φ5 ε4 H' S5 True.intro hq
theorem ae_op {op : Operator} {R : W → W → W → Prop} (ho : OpA X (binaryOp op) R) (ha : AE X a ta) (hb : AE X b tb) : AE X (.BinOp a op b pos) (tBin R ta tb) := by
  obtain ⟨r, p, q⟩ := ho.ex
  obtain ⟨tHa, pa, qa⟩ := ha.ex
  obtain ⟨tHb, pb, qb⟩ := hb.ex
  exact ⟨_, pe_op p pa pb, fun E F φ ε σ H τ Q QH S h k => bin_core (f := binaryOp op) q qa qb S h k⟩
theorem ae_cmp {op : CmpOp} {R : W → W → W → Prop} (ho : OpA X (compareOp op) R) (ha : AE X a ta) (hb : AE X b tb) (hm : behindInMarks op b = false := by first | exact nomark _ (by decide) (by decide) | with_unfolding_all rfl) : AE X (.Compare a [op] [b] pos) (tBin R ta tb) := by
  obtain ⟨r, p, q⟩ := ho.ex
  obtain ⟨tHa, pa, qa⟩ := ha.ex
  obtain ⟨tHb, pb, qb⟩ := hb.ex
  exact ⟨_, pe_cmpR p pa pb hm, fun E F φ ε σ H τ Q QH S h k => bin_core (f := compareOp op) q qa qb S h k⟩
/-- a bool that an expression hands on, as a test -/
def tBl (t : TEA) : TTA := fun ε Q => t ε fun x ε1 => ∃ b, x = .v (.d (.bool b)) ∧ Q b ε1
theorem bl_core {tH : TE} {t : TEA} (p : ∀ (E : Ent) F φ ε σ H τ (Q : EV → Env → Prop) (QH : VK), Sta X.K E F φ ε σ H τ → t ε Q → (∀ rv v F' φ' ε' H', Sta X.K E F' φ' ε' σ H' (evT rv v τ) → evOk rv σ v → Q rv ε' → QH v H') → tH σ H QH)
    {E : Ent} {F φ ε σ H τ} {Q : Bool → Env → Prop} {QH : Bool → Hp → Prop} (S : Sta X.K E F φ ε σ H τ) (h : tBl t ε Q) (k : ∀ b F' φ' ε' H', Sta X.K E F' φ' ε' σ H' τ → Q b ε' → QH b H') : tH σ H fun x H1 => ∃ c, x = .bl c ∧ QH c H1 := by
  refine p E F φ ε σ H τ _ _ S h fun x v F1 φ1 ε1 H1 S1 ok1 h1 => ?_
  obtain ⟨b, rfl, h1⟩ := h1
  obtain ⟨A, r, _, _⟩ := S1.view ok1 rfl
  rw [rep_d, dq_bool] at r
  exact ⟨b, r.1, k b F1 φ1 ε1 H1 (Sta.drop (r := [(_, v)]) S1) h1⟩
theorem at_cmp {op : CmpOp} {R : W → W → W → Prop} (ho : OpA X (compareOp op) R) (ha : AE X a ta) (hb : AE X b tb) (hm : behindInMarks op b = false := by first | exact nomark _ (by decide) (by decide) | with_unfolding_all rfl) : AT X (.Compare a [op] [b] pos) (tBl (tBin R ta tb)) := by
  obtain ⟨r, p, q⟩ := ho.ex
  obtain ⟨tHa, pa, qa⟩ := ha.ex
  obtain ⟨tHb, pb, qb⟩ := hb.ex
  exact ⟨_, pt_cmpR p pa pb hm, fun E F φ ε σ H τ Q QH S h k => bl_core (t := tBin R ta tb) (fun E F φ ε σ H τ Q QH S h k => bin_core (f := compareOp op) q qa qb S h k) S h k⟩
theorem at_val (ha : AE X a ta) (he : ∀ whole, isTrue a X.env whole = (do let v ← whole; standAt a.pos; holding [v] (truthy v)) := by intro _; rfl) : AT X a (tBl ta) := by
  obtain ⟨tHa, pa, qa⟩ := ha.ex
  exact ⟨_, pt_val pa he, fun E F φ ε σ H τ Q QH S h k => bl_core qa S h k⟩
/-- truth, by the content -/
inductive TruW : W → Bool → Prop
  | none : TruW (.d .none) false
  | bool (b : Bool) : TruW (.d (.bool b)) b
  | int (i : Int) : TruW (.d (.int i)) (i != 0)
  | str (x : Str) (h : x.length ≤ sizeLine) : TruW (.d (.str x)) ((x.length : Int) != 0)
  | lst (ws : List W) : TruW (.lst ws) (!ws.isEmpty)
  | dlst (ds : List PyData) : TruW (.d (.list ds)) (!ds.isEmpty)
  | dtup (ds : List PyData) : TruW (.d (.tuple ds)) (!ds.isEmpty)
  | dk (ws : List (Key × W)) : TruW (.dk ws) (!ws.isEmpty)
theorem Dqs.len {K : PySem.W.Frag} {F : Hp} : ∀ {ds : List PyData} {vs : List V}, Dqs K F ds vs → vs.length = ds.length
  | [], _, h => by rw [dqs_nil] at h; rw [h]; rfl
  | d :: ds, _, h => by
    rw [dqs_cons] at h
    obtain ⟨v, r, rfl, _, q⟩ := h
    rw [List.length_cons, List.length_cons, Dqs.len q]
theorem Reps.len {K : PySem.W.Frag} {F H : Hp} : ∀ {ws : List W} {vs : List V} {A : List Addr}, Reps K F H ws vs A → vs.length = ws.length
  | [], _, _, h => by rw [reps_nil] at h; rw [h.1]; rfl
  | d :: ds, _, _, h => by
    rw [reps_cons] at h
    obtain ⟨v, r, _, _, rfl, _, _, q⟩ := h
    rw [List.length_cons, List.length_cons, Reps.len q]
theorem Repk.len {K : PySem.W.Frag} {F H : Hp} : ∀ {ws : List (Key × W)} {vs : List (Key × V)} {A : List Addr}, Repk K F H ws vs A → vs.length = ws.length
  | [], _, _, h => by rw [repk_nil] at h; rw [h.1]; rfl
  | (k, d) :: ds, _, _, h => by
    rw [repk_cons] at h
    obtain ⟨v, r, _, _, rfl, _, _, q⟩ := h
    rw [List.length_cons, List.length_cons, Repk.len q]
theorem empty_of {α β : Type} {l : List α} {m : List β} (h : l.length = m.length) : l.isEmpty = m.isEmpty := by
  cases l <;> cases m <;> simp_all
theorem TruW.ok {K : PySem.W.Frag} {F H : Hp} {w : W} {v : V} {A : List Addr} {b : Bool} (s : Same F H) (t : TruW w b) (r : Rep K F H w v A) : TruV K v H b := by
  cases t with
  | none => rw [rep_d, dq_none] at r; rw [r.1]; rfl
  | bool b => rw [rep_d, dq_bool] at r; rw [r.1]; rfl
  | int i => rw [rep_d, dq_int] at r; rw [r.1]; rfl
  | str x h => rw [rep_d, dq_str] at r; rw [r.1]; exact ⟨h, rfl⟩
  | lst ws =>
    rw [rep_lst] at r
    obtain ⟨a, vs, B, rfl, _, h, q⟩ := r
    exact .inl ⟨vs, SqL.of h, by rw [empty_of q.len]⟩
  | dlst ds =>
    rw [rep_d, dq_list] at r
    obtain ⟨⟨a, vs, rfl, h, q⟩, _⟩ := r
    exact .inl ⟨vs, s.seq h, by rw [empty_of q.len]⟩
  | dtup ds =>
    rw [rep_d, dq_tup] at r
    obtain ⟨⟨a, vs, rfl, h, q⟩, _⟩ := r
    exact .inr (.inl ⟨vs, s.sqT h, by rw [empty_of q.len]⟩)
  | dk ws =>
    rw [rep_dk] at r
    obtain ⟨a, vs, B, rfl, _, h, q⟩ := r
    exact .inr (.inr ⟨vs, h, by rw [empty_of q.len]⟩)
def tTru (t : TEA) : TTA := fun ε Q => t ε fun x ε1 => ∃ w b ε2, cnt ε1 x = some w ∧ bck x ε1 = some ε2 ∧ TruW w b ∧ Q b ε2
theorem at_truth (ha : AE X a ta) (he : ∀ whole, isTrue a X.env whole = (do let v ← whole; standAt a.pos; holding [v] (truthy v)) := by intro _; rfl) : AT X a (tTru ta) := by
  obtain ⟨tHa, pa, qa⟩ := ha.ex
  refine ⟨_, pt_truth pa he, fun E F φ ε σ H τ Q QH S h k => ?_⟩
  refine qa E F φ ε σ H τ _ _ S h fun x v F1 φ1 ε1 H1 S1 ok1 h1 => ?_
  obtain ⟨w, b, ε2, c, bk, t, hq⟩ := h1
  obtain ⟨A, r, _, _⟩ := S1.view ok1 c
  obtain ⟨φ2, S2⟩ := S1.back ok1 bk
  exact ⟨b, t.ok S1.sub r, k b F1 φ2 ε2 H1 S2 hq⟩

/-! ### and, or, not, if -/
variable {tA tB tC : TTA} {rest : List Expr}
def tAnd (t u : TTA) : TTA := fun ε Q => t ε fun c ε1 => if c = true then u ε1 Q else Q false ε1
def tOr (t u : TTA) : TTA := fun ε Q => t ε fun c ε1 => if c = true then Q true ε1 else u ε1 Q
def tNot (t : TTA) : TTA := fun ε Q => t ε fun c ε1 => Q (!c) ε1
theorem aw_and1 (ha : AT X a tA) : AW X (.BoolOp .And [a] pos) tA := let ⟨_, p, q⟩ := ha.ex; ⟨_, pw_and1 p, q⟩
theorem aw_or1 (ha : AT X a tA) : AW X (.BoolOp .Or [a] pos) tA := let ⟨_, p, q⟩ := ha.ex; ⟨_, pw_or1 p, q⟩
theorem aw_and (ha : AT X a tA) (hb : AW X (.BoolOp .And (b :: rest) pos) tB) : AW X (.BoolOp .And (a :: b :: rest) pos) (tAnd tA tB) := by
  obtain ⟨_, pa, qa⟩ := ha.ex
  obtain ⟨_, pb, qb⟩ := hb.ex
  refine ⟨_, pw_and pa pb, fun E F φ ε σ H τ Q QH S h k => ?_⟩
  refine qa E F φ ε σ H τ _ _ S h fun c F1 φ1 ε1 H1 S1 h1 => ?_
  cases c with
  | true => exact iteT (qb E F1 φ1 ε1 σ H1 τ _ _ S1 h1 k)
  | false => exact iteF (k false F1 φ1 ε1 H1 S1 h1)
theorem aw_or (ha : AT X a tA) (hb : AW X (.BoolOp .Or (b :: rest) pos) tB) : AW X (.BoolOp .Or (a :: b :: rest) pos) (tOr tA tB) := by
  obtain ⟨_, pa, qa⟩ := ha.ex
  obtain ⟨_, pb, qb⟩ := hb.ex
  refine ⟨_, pw_or pa pb, fun E F φ ε σ H τ Q QH S h k => ?_⟩
  refine qa E F φ ε σ H τ _ _ S h fun c F1 φ1 ε1 H1 S1 h1 => ?_
  cases c with
  | true => exact iteT (k true F1 φ1 ε1 H1 S1 h1)
  | false => exact iteF (qb E F1 φ1 ε1 σ H1 τ _ _ S1 h1 k)
theorem at_not (ha : AT X a tA) : AT X (.UnaryOp .Not a pos) (tNot tA) := by
  obtain ⟨_, pa, qa⟩ := ha.ex
  exact ⟨_, pt_not pa, fun E F φ ε σ H τ Q QH S h k => qa E F φ ε σ H τ _ _ S h fun c F1 φ1 ε1 H1 S1 h1 => k (!c) F1 φ1 ε1 H1 S1 h1⟩
/-- as values -/
def tAndV (ta tb : TEA) : TEA := fun ε Q => ta ε fun x ε1 => ∃ c, x = .v (.d (.bool c)) ∧ if c = true then tb ε1 Q else Q (.v (.d (.bool false))) ε1
def tOrV (ta tb : TEA) : TEA := fun ε Q => ta ε fun x ε1 => ∃ c, x = .v (.d (.bool c)) ∧ if c = true then Q (.v (.d (.bool true))) ε1 else tb ε1 Q
def tNotV (ta : TEA) : TEA := fun ε Q => ta ε fun x ε1 => ∃ c, x = .v (.d (.bool c)) ∧ Q (.v (.d (.bool (!c)))) ε1
theorem ae_one {op} (h : AE X a ta) : AE X (.BoolOp op [a] pos) ta := let ⟨_, p, q⟩ := h.ex; ⟨_, pe_one p, q⟩
theorem bool_of {E : Ent} {F φ ε σ H τ} {c : Bool} {v : V} (S : Sta X.K E F φ ε σ H (evT (.v (.d (.bool c))) v τ)) : v = .bl c ∧ Sta X.K E F φ ε σ H τ := by
  obtain ⟨A, r, _, _⟩ := S.view (rv := .v (.d (.bool c))) True.intro rfl
  rw [rep_d, dq_bool] at r
  exact ⟨r.1, Sta.drop (r := [(_, v)]) S⟩
theorem ae_and (ha : AE X a ta) (hb : AE X (.BoolOp .And (b :: rest) pos) tb) : AE X (.BoolOp .And (a :: b :: rest) pos) (tAndV ta tb) := by
  obtain ⟨_, pa, qa⟩ := ha.ex
  obtain ⟨_, pb, qb⟩ := hb.ex
  refine ⟨_, pe_and pa pb, fun E F φ ε σ H τ Q QH S h k => ?_⟩
  refine qa E F φ ε σ H τ _ _ S h fun x v F1 φ1 ε1 H1 S1 ok1 h1 => ?_
  obtain ⟨c, rfl, h1⟩ := h1
  obtain ⟨rfl, S2⟩ := bool_of S1
  refine ⟨c, rfl, ?_⟩
  cases c with
  | true => exact iteT (qb E F1 φ1 ε1 σ H1 τ _ _ S2 h1 k)
  | false => exact iteF (k _ _ F1 φ1 ε1 H1 S1 True.intro h1)
theorem ae_or (ha : AE X a ta) (hb : AE X (.BoolOp .Or (b :: rest) pos) tb) : AE X (.BoolOp .Or (a :: b :: rest) pos) (tOrV ta tb) := by
  obtain ⟨_, pa, qa⟩ := ha.ex
  obtain ⟨_, pb, qb⟩ := hb.ex
  refine ⟨_, pe_or pa pb, fun E F φ ε σ H τ Q QH S h k => ?_⟩
  refine qa E F φ ε σ H τ _ _ S h fun x v F1 φ1 ε1 H1 S1 ok1 h1 => ?_
  obtain ⟨c, rfl, h1⟩ := h1
  obtain ⟨rfl, S2⟩ := bool_of S1
  refine ⟨c, rfl, ?_⟩
  cases c with
  | true => exact iteT (k _ _ F1 φ1 ε1 H1 S1 True.intro h1)
  | false => exact iteF (qb E F1 φ1 ε1 σ H1 τ _ _ S2 h1 k)
theorem ae_not (ha : AE X a ta) : AE X (.UnaryOp .Not a pos) (tNotV ta) := by
  obtain ⟨_, pa, qa⟩ := ha.ex
  refine ⟨_, pe_not pa, fun E F φ ε σ H τ Q QH S h k => ?_⟩
  refine qa E F φ ε σ H τ _ _ S h fun x v F1 φ1 ε1 H1 S1 ok1 h1 => ?_
  obtain ⟨c, rfl, h1⟩ := h1
  obtain ⟨rfl, S2⟩ := bool_of S1
  obtain ⟨φ', S'⟩ := S2.pushD (x := .bool (!c)) (v := .bl (!c)) (by rw [dq_bool])
  exact ⟨c, rfl, k (.v (.d (.bool (!c)))) _ F1 φ' ε1 H1 S' True.intro h1⟩
def tIf (t : TTA) (ta tb : TEA) : TEA := fun ε Q => t ε fun c ε1 => if c = true then ta ε1 Q else tb ε1 Q
theorem ae_if (hc : AT X c tA) (ha : AE X a ta) (hb : AE X b tb) : AE X (.IfExp c a b pos) (tIf tA ta tb) := by
  obtain ⟨_, pc, qc⟩ := hc.ex
  obtain ⟨_, pa, qa⟩ := ha.ex
  obtain ⟨_, pb, qb⟩ := hb.ex
  refine ⟨_, pe_ifExp pc pa pb, fun E F φ ε σ H τ Q QH S h k => ?_⟩
  refine qc E F φ ε σ H τ _ _ S h fun c F1 φ1 ε1 H1 S1 h1 => ?_
  cases c with
  | true => exact iteT (qa E F1 φ1 ε1 σ H1 τ _ _ S1 h1 k)
  | false => exact iteF (qb E F1 φ1 ε1 σ H1 τ _ _ S1 h1 k)
end
end Ab

namespace Ab
open PySem PySem.Spec PyProof.Rows L2

/-! ## a content as a datum -/
mutual
inductive Rfy : W → PyData → Prop
  | d (x : PyData) : Rfy (.d x) x
  | lst {ws : List W} {ds : List PyData} : Rfys ws ds → Rfy (.lst ws) (.list ds)
  | dk {ws : List (Key × W)} {ds : List (PyData × PyData)} : Rfyk ws ds → Rfy (.dk ws) (.dict ds)
inductive Rfys : List W → List PyData → Prop
  | nil : Rfys [] []
  | cons {w : W} {ws : List W} {d : PyData} {ds : List PyData} : Rfy w d → Rfys ws ds → Rfys (w :: ws) (d :: ds)
inductive Rfyk : List (Key × W) → List (PyData × PyData) → Prop
  | nil : Rfyk [] []
  | cons {k : Key} {w : W} {ws : List (Key × W)} {d : PyData} {ds : List (PyData × PyData)} : Rfy w d → Rfyk ws ds → Rfyk ((k, w) :: ws) ((kD k, d) :: ds)
end
theorem Rfys.map : ∀ ds : List PyData, Rfys (ds.map W.d) ds
  | [] => .nil
  | d :: ds => .cons (.d d) (Rfys.map ds)
theorem Rfy.L (ds : List PyData) : Rfy (.lst (ds.map W.d)) (.list ds) := .lst (Rfys.map ds)
theorem Rfyk.map : ∀ ds : List (Key × PyData), Rfyk (ds.map fun q => (q.1, W.d q.2)) (ds.map fun q => (kD q.1, q.2))
  | [] => .nil
  | (k, d) :: ds => .cons (.d d) (Rfyk.map ds)
section
variable {K : PySem.W.Frag} {F F' H : Hp}
mutual
theorem Rfy.dq (s : Same F F') : ∀ {w : W} {x : PyData} {v : V} {A : List Addr}, Rfy w x → Rep K F H w v A → (∀ a ∈ A, F' a = H a) → Dq K F' x v
  | _, _, v, A, .d x, r, _ => by
    rw [rep_d] at r
    exact r.1.mono s
  | _, _, v, A, .lst q, r, k => by
    rw [rep_lst] at r
    obtain ⟨a, vs, B, rfl, rfl, h, r⟩ := r
    rw [dq_list]
    exact ⟨a, vs, rfl, SqL.of ((k a List.mem_cons_self).trans h), Rfys.dq s q r fun b hb => k b (List.mem_cons_of_mem _ hb)⟩
  | _, _, v, A, .dk q, r, k => by
    rw [rep_dk] at r
    obtain ⟨a, vs, B, rfl, rfl, h, r⟩ := r
    rw [dq_dict]
    exact ⟨a, vs, rfl, (k a List.mem_cons_self).trans h, Rfyk.dq s q r fun b hb => k b (List.mem_cons_of_mem _ hb)⟩
theorem Rfys.dq (s : Same F F') : ∀ {ws : List W} {xs : List PyData} {vs : List V} {A : List Addr}, Rfys ws xs → Reps K F H ws vs A → (∀ a ∈ A, F' a = H a) → Dqs K F' xs vs
  | _, _, vs, A, .nil, r, _ => by
    rw [reps_nil] at r
    rw [dqs_nil]
    exact r.1
  | _, _, vs, A, .cons q1 q2, r, k => by
    rw [reps_cons] at r
    obtain ⟨v, r', B, C, rfl, rfl, r1, r2⟩ := r
    rw [dqs_cons]
    exact ⟨v, r', rfl, Rfy.dq s q1 r1 fun a ha => k a (List.mem_append_left _ ha), Rfys.dq s q2 r2 fun a ha => k a (List.mem_append_right _ ha)⟩
theorem Rfyk.dq (s : Same F F') : ∀ {ws : List (Key × W)} {xs : List (PyData × PyData)} {vs : List (Key × V)} {A : List Addr}, Rfyk ws xs → Repk K F H ws vs A → (∀ a ∈ A, F' a = H a) → Dqk K F' xs vs
  | _, _, vs, A, .nil, r, _ => by
    rw [repk_nil] at r
    rw [dqk_nil]
    exact r.1
  | _, _, vs, A, .cons q1 q2, r, k => by
    rw [repk_cons] at r
    obtain ⟨v, r', B, C, rfl, rfl, r1, r2⟩ := r
    rw [dqk_cons]
    exact ⟨_, v, r', rfl, rfl, Rfy.dq s q1 r1 fun a ha => k a (List.mem_append_left _ ha), Rfyk.dq s q2 r2 fun a ha => k a (List.mem_append_right _ ha)⟩
end
end
/-- F with what stands in H at A -/
def frz (F H : Hp) (A : List Addr) : Hp := fun a => if a ∈ A then H a else F a

/-! ## to take what an expression hands on -/
inductive Tak : EV → Env → W → Env → Prop
  | v (w : W) (ε : Env) : Tak (.v w) ε w ε
  | mv {i : Nat} {w : W} {ε : Env} : ε[i]? = some (some w) → Tak (.sl i) ε w (ε.set i none)
  | sl {i : Nat} {w : W} {x : PyData} {ε : Env} : ε[i]? = some (some w) → Rfy w x → Tak (.sl i) ε (.d x) (ε.set i (some (.d x)))
  | fl {i : Nat} {p : List Str} {u : V} {w r : W} {x : PyData} {ε : Env} : ε[i]? = some (some r) → getP r p = some (.v u) → Rfy w x → Tak (.fl i p u w) ε (.d x) (ε.set i (some (putP r p (.d x))))
  | fv {i : Nat} {p : List Str} {u : V} {x : PyData} {ε ε' : Env} : bck (.fl i p u (.d x)) ε = some ε' → Tak (.fl i p u (.d x)) ε (.d x) ε'

section
variable {K : PySem.W.Frag} {E : Ent} {F F' H H' : Hp} {φ φ' : Addr → Option Nat} {ε ε' : Env} {σ σ' : L2.St} {τ τ' : List (W × V)} {rv : EV} {v : V} {w : W}
/-- rows' objects are frozen -/
theorem Stp.frz {R : Nat → Prop} {A : List Addr} (S : Sta K E F φ ε σ H τ) (hA : ∀ a ∈ A, ∃ i, φ a = some i ∧ ¬ R i) : Stp F φ H (frz F H A) (fun a => if a ∈ A then none else φ a) H R where
  f := fun b o h => by
    show (if b ∈ A then H b else F b) = some o
    by_cases z : b ∈ A
    · rw [if_pos z]; exact S.sub b o h
    · rw [if_neg z]; exact h
  fn := fun b h => by
    have h : (if b ∈ A then H b else F b) ≠ none := h
    by_cases z : b ∈ A
    · obtain ⟨i, q, _⟩ := hA b z
      exact .inr (.inl ⟨i, q⟩)
    · rw [if_neg z] at h; exact .inl h
  sub := fun b o h => by
    have h : (if b ∈ A then H b else F b) = some o := h
    by_cases z : b ∈ A
    · rw [if_pos z] at h; exact h
    · rw [if_neg z] at h; exact S.sub b o h
  pre := fun _ h => h
  old := fun _ _ h _ => h
  keep := fun a i h r => ⟨rfl, by
    show (if a ∈ A then none else φ a) = some i
    rw [if_neg (fun z => by
      obtain ⟨j, q, n⟩ := hA a z
      rw [h] at q
      cases q
      exact n r)]
    exact h⟩
  own := fun b i h => by
    have h : (if b ∈ A then none else φ b) = some i := h
    by_cases z : b ∈ A
    · rw [if_pos z] at h; cases h
    · rw [if_neg z] at h
      refine ⟨?_, (S.own b i h).2.1, .inl ⟨i, h⟩⟩
      show (if b ∈ A then H b else F b) = none
      rw [if_neg z]
      exact (S.own b i h).1
theorem frz_same {A : List Addr} (S : Sta K E F φ ε σ H τ) (hA : ∀ a ∈ A, ∃ i, φ a = some i) : Same F (frz F H A) := fun b o h => by
  show (if b ∈ A then H b else F b) = some o
  by_cases z : b ∈ A
  · rw [if_pos z]; exact S.sub b o h
  · rw [if_neg z]; exact h
theorem frz_in {A : List Addr} : ∀ a ∈ A, frz F H A a = H a := fun a ha => by
  show (if a ∈ A then H a else F a) = H a
  rw [if_pos ha]

theorem Sta.take (S : Sta K E F φ ε σ H (evT rv v τ)) (ok : evOk rv σ v) (t : Tak rv ε w ε') : ∃ F' φ', Sta K E F' φ' ε' σ H (τ ++ [(w, v)]) := by
  cases t with
  | v w ε => exact ⟨F, φ, S⟩
  | @mv i w ε h =>
    have ok : σ[i]? = some (some v) := ok
    have S : Sta K E F φ ε σ H τ := S
    obtain ⟨v', A, e, r, nd, hA⟩ := S.slot i w h
    rw [ok] at e
    cases e
    obtain ⟨hi, _⟩ := List.getElem?_eq_some_iff.mp h
    refine ⟨F, fun a => if a ∈ A then some (ε.length + τ.length) else φ a, S.step (R := fun k => k ≠ i) (Stp.tag S (fun a j h hj => ?_) fun a j h => ?_) (by rw [List.length_set]; exact S.len) (List.length_set ..) S.fix (fun j w' h' => ?_) fun j w' v' h' => ?_⟩
    · show (if a ∈ A then some (ε.length + τ.length) else φ a) = some j
      rw [if_neg (fun z => by
        have q := hA a z
        rw [h] at q
        exact hj (Option.some.inj q))]
      exact h
    · have h : (if a ∈ A then some (ε.length + τ.length) else φ a) = some j := h
      by_cases z : a ∈ A
      · exact ⟨i, hA a z⟩
      · rw [if_neg z] at h; exact ⟨j, h⟩
    · rcases set_get h' with ⟨rfl, e⟩ | ⟨ne, h'⟩
      · cases e
      · exact .inl ⟨ne, h', rfl⟩
    · rcases getE_app h' with h' | ⟨rfl, e⟩
      · exact .inl ⟨by show ε.length + j ≠ i; omega, h'⟩
      · cases e
        exact .inr ⟨A, r, nd, fun a ha => by show (if a ∈ A then some (ε.length + τ.length) else φ a) = _; rw [if_pos ha]⟩
  | @sl i w x ε h q =>
    have ok : σ[i]? = some (some v) := ok
    have S : Sta K E F φ ε σ H τ := S
    obtain ⟨v', A, e, r, nd, hA⟩ := S.slot i w h
    rw [ok] at e
    cases e
    have dq : Dq K (frz F H A) x v := q.dq (frz_same S fun a ha => ⟨i, hA a ha⟩) r frz_in
    have S1 : Sta K E (frz F H A) (fun a => if a ∈ A then none else φ a) (ε.set i (some (.d x))) σ H τ := by
      refine S.step (R := fun k => k ≠ i) (Stp.frz S fun a ha => ⟨i, hA a ha, fun z => z rfl⟩) (by rw [List.length_set]; exact S.len) (List.length_set ..) S.fix (fun j w' h' => ?_) fun j w' v' h' => ?_
      · rcases set_get h' with ⟨rfl, e⟩ | ⟨ne, h'⟩
        · cases e
          exact .inr ⟨v, [], ok, by rw [rep_d]; exact ⟨dq, rfl⟩, List.nodup_nil, fun a ha => nomatch ha⟩
        · exact .inl ⟨ne, h', rfl⟩
      · obtain ⟨hi, _⟩ := List.getElem?_eq_some_iff.mp h
        exact .inl ⟨by show ε.length + j ≠ i; omega, h'⟩
    obtain ⟨φ', S2⟩ := S1.pushD dq
    exact ⟨_, φ', S2⟩
  | @fl i p u w r x ε h g q =>
    have ok : u = v := ok
    subst ok
    have S : Sta K E F φ ε σ H (τ ++ [(w, u)]) := S
    obtain ⟨A, rw', nd, hA⟩ := S.tmp τ.length w u getE_last
    have dq : Dq K (frz F H A) x u := q.dq (frz_same S fun a ha => ⟨_, hA a ha⟩) rw' frz_in
    have S1 : Sta K E (frz F H A) (fun a => if a ∈ A then none else φ a) ε σ H τ := by
      refine (Sta.drop (r := [(w, u)]) S).step (R := fun k => k ≠ ε.length + τ.length) (Stp.frz S fun a ha => ⟨_, hA a ha, fun z => z rfl⟩) S.len rfl S.fix (fun j w' h' => ?_) fun j w' v' h' => ?_
      · obtain ⟨hj, _⟩ := List.getElem?_eq_some_iff.mp h'
        exact .inl ⟨by show j ≠ ε.length + τ.length; omega, h', rfl⟩
      · obtain ⟨hj, _⟩ := List.getElem?_eq_some_iff.mp h'
        exact .inl ⟨by show ε.length + j ≠ ε.length + τ.length; omega, h'⟩
    obtain ⟨φ2, S2⟩ := S1.pushD dq
    obtain ⟨φ3, S3⟩ := Sta.back (rv := .fl i p u (.d x)) (ε' := ε.set i (some (putP r p (.d x)))) S2 rfl (by
      unfold bck
      simp only [h, g, if_true])
    obtain ⟨φ4, S4⟩ := S3.pushD dq
    exact ⟨_, φ4, S4⟩
  | @fv i p u x ε ε' h =>
    have ok : u = v := ok
    subst ok
    have S : Sta K E F φ ε σ H (τ ++ [(.d x, u)]) := S
    obtain ⟨A, rw', nd, hA⟩ := S.tmp τ.length (.d x) u getE_last
    rw [rep_d] at rw'
    obtain ⟨φ3, S3⟩ := Sta.back (rv := .fl i p u (.d x)) S rfl h
    obtain ⟨φ4, S4⟩ := S3.pushD rw'.1
    exact ⟨_, φ4, S4⟩
end
def tOwn (te : TEA) : TEA := fun ε Q => te ε fun rv ε1 => ∃ w ε2, Tak rv ε1 w ε2 ∧ Q (.v w) ε2
section
variable {X : Cx} {e : Expr} {te : TEA} {es : List Expr} {t : TAA} {pos : Pos}
theorem ae_own (h : AE X e te) : AE X e (tOwn te) := by
  obtain ⟨tH, p, q⟩ := h.ex
  refine ⟨tH, p, fun E F φ ε σ H τ Q QH S h k => ?_⟩
  refine q E F φ ε σ H τ _ _ S h fun rv v F1 φ1 ε1 H1 S1 ok h1 => ?_
  obtain ⟨w, ε2, t, h2⟩ := h1
  obtain ⟨F2, φ2, S2⟩ := S1.take ok t
  exact k (.v w) v F2 φ2 ε2 H1 S2 True.intro h2

/-! ### arguments -/
def evTs (τ : List (W × V)) : List EV → List V → List (W × V)
  | x :: xs, v :: vs => evTs (evT x v τ) xs vs
  | _, _ => τ
def evOks (σ : L2.St) : List EV → List V → Prop
  | [], [] => True
  | x :: xs, v :: vs => evOk x σ v ∧ evOks σ xs vs
  | _, _ => False
structure AA (X : Cx) (es : List Expr) (t : TAA) : Prop where
  ex : ∃ tH : TA, PA X es tH ∧ ∀ (E : Ent) F φ ε σ H τ (Q : List EV → Env → Prop) (QH : List V → Hp → Prop), Sta X.K E F φ ε σ H τ → t ε Q →
    (∀ xs vs F' φ' ε' H', Sta X.K E F' φ' ε' σ H' (evTs τ xs vs) → evOks σ xs vs → Q xs ε' → QH vs H') → tH σ H QH
def tNil : TAA := fun ε Q => Q [] ε
def tCons (te : TEA) (t : TAA) : TAA := fun ε Q => te ε fun x ε1 => t ε1 fun xs ε2 => Q (x :: xs) ε2
theorem aa_nil : AA X [] tNil := ⟨_, pa_nil, fun E F φ ε σ H τ Q QH S h k => k [] [] F φ ε H S True.intro h⟩
theorem aa_cons (h1 : AE X e te) (h2 : AA X es t) (hs : starEach (e :: es) X.env = (false, eval e X.env) :: starEach es X.env := by rfl) : AA X (e :: es) (tCons te t) := by
  obtain ⟨_, p1, q1⟩ := h1.ex
  obtain ⟨_, p2, q2⟩ := h2.ex
  refine ⟨_, pa_cons p1 p2 hs, fun E F φ ε σ H τ Q QH S h k => ?_⟩
  refine q1 E F φ ε σ H τ _ _ S h fun x v F1 φ1 ε1 H1 S1 ok1 h1 => ?_
  refine q2 E F1 φ1 ε1 σ H1 _ _ _ S1 h1 fun xs vs F2 φ2 ε2 H2 S2 ok2 h2 => ?_
  exact k (x :: xs) (v :: vs) F2 φ2 ε2 H2 S2 ⟨ok1, ok2⟩ h2
end

/-! ### the topmost rows together -/
section
variable {K : PySem.W.Frag} {E : Ent} {F F' H H' : Hp} {φ φ' : Addr → Option Nat} {ε ε' : Env} {σ σ' : L2.St} {τ τ' : List (W × V)} {rv : EV} {v : V} {w : W}
theorem evTs_v : ∀ {ws : List W} {vs : List V} {τ : List (W × V)}, evOks σ (ws.map EV.v) vs → evTs τ (ws.map EV.v) vs = τ ++ ws.zip vs ∧ vs.length = ws.length
  | [], [], τ, _ => by simp [evTs]
  | [], _ :: _, τ, h => h.elim
  | _ :: _, [], τ, h => h.elim
  | w :: ws, v :: vs, τ, h => by
    obtain ⟨e, l⟩ := evTs_v (τ := τ ++ [(w, v)]) h.2
    constructor
    · show evTs (τ ++ [(w, v)]) (ws.map EV.v) vs = _
      rw [e]
      simp
    · simp [l]
theorem Sta.gather : ∀ {ws : List W} {vs : List V} {τ : List (W × V)}, vs.length = ws.length → Sta K E F φ ε σ H (τ ++ ws.zip vs) →
    ∃ A, Reps K F H ws vs A ∧ A.Nodup ∧ ∀ a ∈ A, ∃ k, φ a = some k ∧ ε.length + τ.length ≤ k
  | [], [], τ, _, S => ⟨[], by rw [reps_nil]; exact ⟨rfl, rfl⟩, List.nodup_nil, fun a h => nomatch h⟩
  | [], _ :: _, _, h, _ => by cases h
  | _ :: _, [], _, h, _ => by cases h
  | w :: ws, v :: vs, τ, h, S => by
    have e : τ ++ (w :: ws).zip (v :: vs) = (τ ++ [(w, v)]) ++ ws.zip vs := by simp
    rw [e] at S
    obtain ⟨C, rC, nC, hC⟩ := Sta.gather (τ := τ ++ [(w, v)]) (by simpa using h) S
    obtain ⟨B, rB, nB, hB⟩ := S.tmp τ.length w v (by rw [List.getElem?_append_left (by simp)]; exact getE_last)
    have sep : ∀ a ∈ B, a ∉ C := fun a ha hc => by
      obtain ⟨k, h1, h2⟩ := hC a hc
      rw [hB a ha] at h1
      cases h1
      simp at h2
      omega
    refine ⟨B ++ C, ?_, List.nodup_append.mpr ⟨nB, nC, fun a ha b hb e => sep a ha (e ▸ hb)⟩, fun a ha => ?_⟩
    · rw [reps_cons]
      exact ⟨v, vs, B, C, rfl, rfl, rB, rC⟩
    · rcases List.mem_append.mp ha with z | z
      · exact ⟨_, hB a z, Nat.le_refl _⟩
      · obtain ⟨k, h1, h2⟩ := hC a z
        refine ⟨k, h1, ?_⟩
        simp at h2
        omega
/-- the topmost rows' objects go over into one, with a new object -/
theorem Sta.join {ws : List W} {vs : List V} {p : Addr} {o : HO} {A : List Addr} (S : Sta K E F φ ε σ H (τ ++ ws.zip vs)) (hp : H p = none) (hA : ∀ a ∈ A, ∃ k, φ a = some k ∧ ε.length + τ.length ≤ k)
    (r : Rep K F (upd H p o) w v (p :: A)) (nd : A.Nodup) : ∃ φ', Sta K E F φ' ε σ (upd H p o) (τ ++ [(w, v)]) := by
  have S0 : Sta K E F φ ε σ H τ := Sta.drop S
  have np : ∀ a i, φ a = some i → a ≠ p := fun a i h z => (S.own a i h).2.1 (z ▸ hp)
  have pA : p ∉ A := fun z => by
    obtain ⟨k, h, _⟩ := hA p z
    exact np p k h rfl
  refine ⟨fun a => if a ∈ p :: A then some (ε.length + τ.length) else φ a, S0.step (R := fun k => k < ε.length + τ.length) ⟨Same.refl _, fun _ h => .inl h, fun b q h => ?_, fun b h => ?_, fun b q h _ => ?_, fun a i h hi => ⟨upd_ne (np a i h), ?_⟩, fun b i h => ?_⟩ S.len rfl S.fix (fun i w h => ?_) (fun j w' v' h => ?_)⟩
  · rw [upd_ne (ne_of_none (S.sub b q h) hp)]; exact S.sub b q h
  · by_cases z : b = p
    · rw [z]; exact hp
    · rw [upd_ne z] at h; exact h
  · rw [upd_ne (ne_of_none h hp)]; exact h
  · show (if a ∈ p :: A then some (ε.length + τ.length) else φ a) = some i
    rw [if_neg (fun z => by
      rcases List.mem_cons.mp z with z | z
      · exact np a i h z
      · obtain ⟨k, h1, h2⟩ := hA a z
        rw [h] at h1
        cases h1
        omega)]
    exact h
  · have h : (if b ∈ p :: A then some (ε.length + τ.length) else φ b) = some i := h
    by_cases z : b ∈ p :: A
    · rcases List.mem_cons.mp z with z | z
      · subst z
        exact ⟨S.sub.free hp, by rw [upd_same]; simp, .inr hp⟩
      · obtain ⟨k, h1, _⟩ := hA b z
        refine ⟨(S.own b k h1).1, ?_, .inl ⟨k, h1⟩⟩
        rw [upd_ne (np b k h1)]
        exact (S.own b k h1).2.1
    · rw [if_neg z] at h
      refine ⟨(S.own b i h).1, ?_, .inl ⟨i, h⟩⟩
      rw [upd_ne (np b i h)]
      exact (S.own b i h).2.1
  · obtain ⟨hj, _⟩ := List.getElem?_eq_some_iff.mp h
    exact .inl ⟨by show i < ε.length + τ.length; omega, h, rfl⟩
  · rcases getE_app h with h | ⟨rfl, e⟩
    · obtain ⟨hj, _⟩ := List.getElem?_eq_some_iff.mp h
      exact .inl ⟨by show ε.length + j < ε.length + τ.length; omega, h⟩
    · cases e
      exact .inr ⟨p :: A, r, List.nodup_cons.mpr ⟨pA, nd⟩, fun a ha => by show (if a ∈ p :: A then some (ε.length + τ.length) else φ a) = _; rw [if_pos ha]⟩
/-- the topmost rows are frozen -/
theorem Sta.freeze {ws : List W} {vs : List V} {xs : List PyData} (S : Sta K E F φ ε σ H (τ ++ ws.zip vs)) (hl : vs.length = ws.length) (q : Rfys ws xs) : ∃ F' φ', Sta K E F' φ' ε σ H τ ∧ Dqs K F' xs vs := by
  obtain ⟨A, r, nd, hA⟩ := S.gather hl
  refine ⟨frz F H A, _, (Sta.drop S).step (R := fun k => k < ε.length + τ.length) (Stp.frz S fun a ha => let ⟨k, h1, h2⟩ := hA a ha; ⟨k, h1, by show ¬ k < ε.length + τ.length; omega⟩) S.len rfl S.fix (fun i w h => ?_) (fun j w v h => ?_), q.dq (frz_same S fun a ha => let ⟨k, h1, _⟩ := hA a ha; ⟨k, h1⟩) r frz_in⟩
  · obtain ⟨hj, _⟩ := List.getElem?_eq_some_iff.mp h
    exact .inl ⟨by show i < ε.length + τ.length; omega, h, rfl⟩
  · obtain ⟨hj, _⟩ := List.getElem?_eq_some_iff.mp h
    exact .inl ⟨by show ε.length + j < ε.length + τ.length; omega, h⟩
end

section
variable {X : Cx} {e : Expr} {te : TEA} {es : List Expr} {t : TAA} {pos : Pos}
def tLst (t : TAA) : TEA := fun ε Q => t ε fun xs ε1 => ∃ ws : List W, xs = ws.map EV.v ∧ ws.length ≤ sizeLine ∧ Q (.v (.lst ws)) ε1
def tTup (t : TAA) : TEA := fun ε Q => t ε fun xs ε1 => ∃ (ws : List W) (ds : List PyData), xs = ws.map EV.v ∧ Rfys ws ds ∧ ws.length ≤ sizeLine ∧ Q (.v (.d (.tuple ds))) ε1
theorem ae_lst (h : AA X es t) : AE X (.List es pos) (tLst t) := by
  obtain ⟨_, p, q⟩ := h.ex
  refine ⟨_, pe_lst p, fun E F φ ε σ H τ Q QH S h k => ?_⟩
  refine q E F φ ε σ H τ _ _ S h fun xs vs F1 φ1 ε1 H1 S1 ok h1 => ?_
  obtain ⟨ws, rfl, hl, h2⟩ := h1
  obtain ⟨e, l⟩ := evTs_v (τ := τ) ok
  rw [e] at S1
  obtain ⟨A, r, nd, hA⟩ := S1.gather l
  refine ⟨by rw [l]; exact hl, fun p hp => ?_⟩
  have np : ∀ a ∈ A, a ≠ p := fun a ha z => by
    obtain ⟨k, h, _⟩ := hA a ha
    exact (S1.own a k h).2.1 (z ▸ hp)
  obtain ⟨φ2, S2⟩ := S1.join (w := .lst ws) (v := .ref p) (o := .lst vs) hp hA (by
    rw [rep_lst]
    exact ⟨p, vs, A, rfl, rfl, upd_same, Reps.keep (Same.refl _) ws vs A (fun a ha => upd_ne (np a ha)) r⟩) nd
  exact k (.v (.lst ws)) _ F1 φ2 ε1 _ S2 True.intro h2
theorem ae_tup {x1} (h : AA X es t) : AE X (.Tuple es x1 pos) (tTup t) := by
  obtain ⟨_, p, q⟩ := h.ex
  refine ⟨_, pe_tup p, fun E F φ ε σ H τ Q QH S h k => ?_⟩
  refine q E F φ ε σ H τ _ _ S h fun xs vs F1 φ1 ε1 H1 S1 ok h1 => ?_
  obtain ⟨ws, ds, rfl, rf, hl, h2⟩ := h1
  obtain ⟨e, l⟩ := evTs_v (τ := τ) ok
  rw [e] at S1
  refine ⟨by rw [l]; exact hl, fun p hp => ?_⟩
  obtain ⟨F2, φ2, S2, dq⟩ := S1.freeze l rf
  obtain ⟨φ3, S3⟩ := S2.new (New.tup hp dq)
  exact k (.v (.d (.tuple ds))) _ _ φ3 ε1 _ S3 True.intro h2

/-! ### calls of built-ins that only read -/
def Cont (K : PySem.W.Frag) (F H : Hp) : List W → List V → Prop
  | [], [] => True
  | w :: ws, v :: vs => (∃ A, Rep K F H w v A) ∧ Cont K F H ws vs
  | _, _ => False
structure ClA (X : Cx) (f : Value) (R : List W → W → Prop) : Prop where
  ex : ∃ r, CallR X f r ∧ ∀ F H ws vs res (QH : VK), Same F H → Cont X.K F H ws vs → R ws res → (∀ v F' H', New X.K F H res v F' H' → QH v H') → r vs H QH
theorem CallR.or {X : Cx} {f : Value} {r r' : List V → Hp → VK → Prop} (h : CallR X f r) (h' : CallR X f r') : CallR X f fun xs H Q => r xs H Q ∨ r' xs H Q := by
  intro pins s σ H xs us Q I rx q
  rcases q with q | q
  · exact h pins s σ H xs us Q I rx q
  · exact h' pins s σ H xs us Q I rx q
theorem ClA.or {f : Value} {R R' : List W → W → Prop} (h : ClA X f R) (h' : ClA X f R') : ClA X f fun x z => R x z ∨ R' x z := by
  obtain ⟨r, p, q⟩ := h.ex
  obtain ⟨r', p', q'⟩ := h'.ex
  refine ⟨_, CallR.or p p', fun F H ws vs res QH s rx hr k => ?_⟩
  rcases hr with hr | hr
  · exact .inl (q F H ws vs res QH s rx hr k)
  · exact .inr (q' F H ws vs res QH s rx hr k)
def cnts (ε : Env) : List EV → Option (List W)
  | [] => some []
  | x :: xs => (cnt ε x).bind fun w => (cnts ε xs).map fun ws => w :: ws
/-- all places take their contents back, the last one first -/
def bcks : List EV → Env → Option Env
  | [], ε => some ε
  | x :: xs, ε => (bcks xs ε).bind fun ε1 => bck x ε1
end
section
variable {K : PySem.W.Frag} {E : Ent} {F F' H H' : Hp} {φ φ' : Addr → Option Nat} {ε ε' : Env} {σ σ' : L2.St} {τ τ' : List (W × V)} {rv : EV} {v : V} {w : W}
theorem Sta.under : ∀ {xs : List EV} {vs : List V} {τ : List (W × V)}, Sta K E F φ ε σ H (evTs τ xs vs) → Sta K E F φ ε σ H τ
  | [], _, _, S => S
  | _ :: _, [], _, S => S
  | x :: xs, v :: vs, τ, S => by
    have S1 : Sta K E F φ ε σ H (evT x v τ) := Sta.under (xs := xs) (vs := vs) S
    cases x with
    | v w => exact Sta.drop (r := [(w, v)]) S1
    | sl i => exact S1
    | fl i p u w => exact Sta.drop (r := [(w, v)]) S1
theorem Sta.views : ∀ {xs : List EV} {vs : List V} {τ : List (W × V)} {ws : List W}, Sta K E F φ ε σ H (evTs τ xs vs) → evOks σ xs vs → cnts ε xs = some ws → Cont K F H ws vs
  | [], [], _, ws, _, _, c => by
    have c : some [] = some ws := c
    cases c
    exact True.intro
  | [], _ :: _, _, _, _, ok, _ => ok.elim
  | _ :: _, [], _, _, _, ok, _ => ok.elim
  | x :: xs, v :: vs, τ, ws, S, ok, c => by
    have c : (cnt ε x).bind (fun w => (cnts ε xs).map fun ws => w :: ws) = some ws := c
    cases h1 : cnt ε x with
    | none => rw [h1] at c; cases c
    | some w =>
      rw [h1] at c
      cases h2 : cnts ε xs with
      | none => rw [h2] at c; cases c
      | some ws' =>
        rw [h2] at c
        cases c
        obtain ⟨A, r, _, _⟩ := (Sta.under (xs := xs) (vs := vs) S).view ok.1 h1
        exact ⟨⟨A, r⟩, Sta.views (τ := evT x v τ) S ok.2 h2⟩
theorem Sta.backs : ∀ {xs : List EV} {vs : List V} {τ : List (W × V)} {φ : Addr → Option Nat} {ε ε' : Env}, Sta K E F φ ε σ H (evTs τ xs vs) → evOks σ xs vs → bcks xs ε = some ε' → ∃ φ', Sta K E F φ' ε' σ H τ
  | [], [], _, _, _, _, S, _, c => by
    cases c
    exact ⟨_, S⟩
  | [], _ :: _, _, _, _, _, _, ok, _ => ok.elim
  | _ :: _, [], _, _, _, _, _, ok, _ => ok.elim
  | x :: xs, v :: vs, τ, φ, ε, ε', S, ok, c => by
    have c : (bcks xs ε).bind (fun ε1 => bck x ε1) = some ε' := c
    cases h1 : bcks xs ε with
    | none => rw [h1] at c; cases c
    | some ε1 =>
      rw [h1] at c
      obtain ⟨φ1, S1⟩ := Sta.backs (τ := evT x v τ) S ok.2 h1
      exact S1.back ok.1 c
end
section
variable {X : Cx} {e : Expr} {te : TEA} {es : List Expr} {t : TAA} {pos p : Pos} {x : Str} {id T : String} {R : List W → W → Prop}
def tCB (R : List W → W → Prop) (t : TAA) : TEA := fun ε Q => t ε fun xs ε1 => ∃ ws r ε2, cnts ε1 xs = some ws ∧ bcks xs ε1 = some ε2 ∧ R ws r ∧ Q (.v r) ε2
theorem cb_core {f : Value} {r : List V → Hp → VK → Prop} (q : ∀ F H ws vs res (QH : VK), Same F H → Cont X.K F H ws vs → R ws res → (∀ v F' H', New X.K F H res v F' H' → QH v H') → r vs H QH) {tH : TA}
    (pa : ∀ (E : Ent) F φ ε σ H τ (Q : List EV → Env → Prop) (QH : List V → Hp → Prop), Sta X.K E F φ ε σ H τ → t ε Q → (∀ xs vs F' φ' ε' H', Sta X.K E F' φ' ε' σ H' (evTs τ xs vs) → evOks σ xs vs → Q xs ε' → QH vs H') → tH σ H QH)
    {E : Ent} {F φ ε σ H τ} {Q : EV → Env → Prop} {QH : VK} (S : Sta X.K E F φ ε σ H τ) (h : tCB R t ε Q) (k : ∀ rv v F' φ' ε' H', Sta X.K E F' φ' ε' σ H' (evT rv v τ) → evOk rv σ v → Q rv ε' → QH v H') : L2.tCB r tH σ H QH := by
  refine pa E F φ ε σ H τ _ _ S h fun xs vs F1 φ1 ε1 H1 S1 ok h1 => ?_
  obtain ⟨ws, rr, ε2, c, b, hr, h2⟩ := h1
  have ct := S1.views ok c
  obtain ⟨φ2, S2⟩ := S1.backs ok b
  refine q F1 H1 ws vs rr QH S1.sub ct hr fun v F' H' n => ?_
  obtain ⟨φ3, S3⟩ := S2.new n
  exact k (.v rr) v F' φ3 ε2 H' S3 True.intro h2
theorem ae_callB (hc : ClA X (.builtin id) R) (hg : Gl X x) (hm : X.mg x = none) (hv : bootBuiltins x = some (.builtin id)) (ha : AA X (e :: es) t) (hn : x ≠ "__name__" := by decide) (hdb : (x == ("__debug__" : Str)) = false := by decide)
    (he : starEach (e :: es) X.env = (false, eval e X.env) :: starEach es X.env := by rfl) (hpl : (backTo pos (starEach es X.env)).any (·.1) = false := by rfl) : AE X (.Call (.Name x p) (e :: es) [] pos) (tCB R t) := by
  obtain ⟨_, pc, qc⟩ := hc.ex
  obtain ⟨_, pa, qa⟩ := ha.ex
  exact ⟨_, pe_callB pc hg hm hv pa hn hdb he hpl, fun E F φ ε σ H τ Q QH S h k => cb_core (f := .builtin id) qc qa S h k⟩
theorem ae_callTy (hc : ClA X (.type T) R) (hg : Gl X x) (hm : X.mg x = none) (hv : bootBuiltins x = some (.type T)) (ha : AA X (e :: es) t) (hn : x ≠ "__name__" := by decide) (hdb : (x == ("__debug__" : Str)) = false := by decide)
    (he : starEach (e :: es) X.env = (false, eval e X.env) :: starEach es X.env := by rfl) (hpl : (backTo pos (starEach es X.env)).any (·.1) = false := by rfl) : AE X (.Call (.Name x p) (e :: es) [] pos) (tCB R t) := by
  obtain ⟨_, pc, qc⟩ := hc.ex
  obtain ⟨_, pa, qa⟩ := ha.ex
  exact ⟨_, pe_callTy pc hg hm hv pa hn hdb he hpl, fun E F φ ε σ H τ Q QH S h k => cb_core (f := .type T) qc qa S h k⟩
end
end Ab

namespace Ab
open PySem PySem.Spec PyProof.Rows L2

/-! ## what a def promises, of contents: the arguments' in, the result's and the arguments' out -/
abbrev SpW := List W → (W → List W → Prop) → Prop
def spA (K : PySem.W.Frag) (sp : SpW) : Sp := fun vs H Q _ => ∃ F ws A, Same F H ∧ Reps K F H ws vs A ∧ A.Nodup ∧ (∀ a ∈ A, F a = none ∧ H a ≠ none) ∧
  sp ws fun r ws' => ∀ v F' H' Ar A', Same F F' → (∀ b, F' b ≠ none → F b ≠ none ∨ b ∈ A ∨ H b = none) → Same F' H' → (∀ b, H' b = none → H b = none) → (∀ b o, H b = some o → b ∉ A → H' b = some o) →
    Rep K F' H' r v Ar → Reps K F' H' ws' vs A' → (Ar ++ A').Nodup → (∀ b ∈ Ar ++ A', F' b = none ∧ H' b ≠ none ∧ (b ∈ A ∨ H b = none)) → Q v H'

section
variable {K : PySem.W.Frag} {E : Ent} {F F' H H' : Hp} {φ φ' : Addr → Option Nat} {ε ε' : Env} {σ σ' : L2.St} {τ τ' : List (W × V)} {rv : EV} {v : V} {w : W}
/-- the parts of a row of contents, each with a number -/
theorem Reps.tags : ∀ {ws : List W} {vs : List V} {A : List Addr} (n : Nat), Reps K F H ws vs A → A.Nodup →
    ∃ ψ : Addr → Option Nat, (∀ a i, ψ a = some i → a ∈ A ∧ n ≤ i) ∧ ∀ j w v, (ws.zip vs)[j]? = some (w, v) → ∃ B, Rep K F H w v B ∧ B.Nodup ∧ ∀ a ∈ B, ψ a = some (n + j) ∧ a ∈ A
  | [], vs, A, n, r, _ => ⟨fun _ => none, fun a i h => (nomatch h), fun j w v h => by simp at h⟩
  | w :: ws, vs, A, n, r, nd => by
    rw [reps_cons] at r
    obtain ⟨v, vr, B, C, rfl, rfl, r1, r2⟩ := r
    obtain ⟨n1, n2, n3⟩ := List.nodup_append.mp nd
    obtain ⟨ψ, h1, h2⟩ := Reps.tags (n + 1) r2 n2
    refine ⟨fun a => if a ∈ B then some n else ψ a, fun a i h => ?_, fun j w' v' h => ?_⟩
    · have h : (if a ∈ B then some n else ψ a) = some i := h
      by_cases z : a ∈ B
      · rw [if_pos z] at h
        cases h
        exact ⟨List.mem_append_left _ z, Nat.le_refl _⟩
      · rw [if_neg z] at h
        obtain ⟨q1, q2⟩ := h1 a i h
        exact ⟨List.mem_append_right _ q1, by omega⟩
    · cases j with
      | zero =>
        simp at h
        obtain ⟨rfl, rfl⟩ := h
        exact ⟨B, r1, n1, fun a ha => ⟨by show (if a ∈ B then some n else ψ a) = _; rw [if_pos ha]; rfl, List.mem_append_left _ ha⟩⟩
      | succ j =>
        obtain ⟨B', q1, q2, q3⟩ := h2 j w' v' (by simpa using h)
        refine ⟨B', q1, q2, fun a ha => ?_⟩
        obtain ⟨t1, t2⟩ := q3 a ha
        refine ⟨?_, List.mem_append_right _ t2⟩
        show (if a ∈ B then some n else ψ a) = _
        rw [if_neg (fun z => n3 a z a t2 rfl), t1]
        congr 1
        omega
/-- behind a call: the result, on top of it the arguments -/
theorem Sta.called {ws ws' : List W} {vs : List V} {A Ar A' : List Addr} {r : W} (S : Sta K E F φ ε σ H (τ ++ ws.zip vs)) (hl' : vs.length = ws'.length) (hA : ∀ a ∈ A, ∃ k, φ a = some k ∧ ε.length + τ.length ≤ k)
    (s : Same F F') (fn : ∀ b, F' b ≠ none → F b ≠ none ∨ b ∈ A ∨ H b = none) (sub : Same F' H') (pre : ∀ b, H' b = none → H b = none) (old : ∀ b o, H b = some o → b ∉ A → H' b = some o)
    (rr : Rep K F' H' r v Ar) (ra : Reps K F' H' ws' vs A') (nd : (Ar ++ A').Nodup) (hn : ∀ b ∈ Ar ++ A', F' b = none ∧ H' b ≠ none ∧ (b ∈ A ∨ H b = none)) : ∃ φ', Sta K E F' φ' ε σ H' (τ ++ [(r, v)] ++ ws'.zip vs) := by
  obtain ⟨n1, n2, n3⟩ := List.nodup_append.mp nd
  obtain ⟨ψ, h1, h2⟩ := ra.tags (ε.length + τ.length + 1) n2
  have low : ∀ a i, φ a = some i → i < ε.length + τ.length → a ∉ A := fun a i h hi z => by
    obtain ⟨k, q, hk⟩ := hA a z
    rw [h] at q
    cases q
    omega
  have lowN : ∀ a i, φ a = some i → i < ε.length + τ.length → a ∉ Ar ++ A' := fun a i h hi z => by
    rcases (hn a z).2.2 with y | y
    · exact low a i h hi y
    · exact (S.own a i h).2.1 y
  refine ⟨fun a => if a ∈ Ar then some (ε.length + τ.length) else match ψ a with
    | some i => some i
    | none => if a ∈ A then none else φ a, (Sta.drop S).step (R := fun k => k < ε.length + τ.length) ⟨s, fun b h => ?_, sub, pre, fun b o h hφ => ?_, fun a i h hi => ⟨?_, ?_⟩, fun b i h => ?_⟩ S.len rfl S.fix (fun i w h => ?_) (fun j w' v' h => ?_)⟩
  · rcases fn b h with h | h | h
    · exact .inl h
    · obtain ⟨k, q, _⟩ := hA b h
      exact .inr (.inl ⟨k, q⟩)
    · exact .inr (.inr h)
  · refine old b o h fun z => ?_
    obtain ⟨k, q, _⟩ := hA b z
    rw [hφ] at q
    cases q
  · cases q : H a with
    | none => exact absurd q (S.own a i h).2.1
    | some o => exact old a o q (low a i h hi)
  · have z1 : a ∉ Ar := fun z => lowN a i h hi (List.mem_append_left _ z)
    have z2 : a ∉ A' := fun z => lowN a i h hi (List.mem_append_right _ z)
    show (if a ∈ Ar then some (ε.length + τ.length) else match ψ a with
      | some i => some i
      | none => if a ∈ A then none else φ a) = some i
    rw [if_neg z1]
    cases q : ψ a with
    | some j => exact absurd (h1 a j q).1 z2
    | none =>
      show (if a ∈ A then none else φ a) = some i
      rw [if_neg (low a i h hi)]
      exact h
  · have h : (if b ∈ Ar then some (ε.length + τ.length) else match ψ b with
      | some i => some i
      | none => if b ∈ A then none else φ b) = some i := h
    have fin : b ∈ Ar ++ A' → F' b = none ∧ H' b ≠ none ∧ ((∃ j, φ b = some j) ∨ H b = none) := fun z => by
      obtain ⟨q1, q2, q3⟩ := hn b z
      refine ⟨q1, q2, ?_⟩
      rcases q3 with q3 | q3
      · obtain ⟨k, q, _⟩ := hA b q3
        exact .inl ⟨k, q⟩
      · exact .inr q3
    by_cases z : b ∈ Ar
    · exact fin (List.mem_append_left _ z)
    · rw [if_neg z] at h
      cases q : ψ b with
      | some j => exact fin (List.mem_append_right _ (h1 b j q).1)
      | none =>
        rw [q] at h
        have h : (if b ∈ A then none else φ b) = some i := h
        by_cases y : b ∈ A
        · rw [if_pos y] at h; cases h
        · rw [if_neg y] at h
          refine ⟨?_, fun z => (S.own b i h).2.1 (pre b z), .inl ⟨i, h⟩⟩
          cases e : F' b with
          | none => rfl
          | some o =>
            rcases fn b (by rw [e]; simp) with q | q | q
            · exact absurd (S.own b i h).1 q
            · exact absurd q y
            · exact absurd q (S.own b i h).2.1
  · obtain ⟨hj, _⟩ := List.getElem?_eq_some_iff.mp h
    exact .inl ⟨by show i < ε.length + τ.length; omega, h, rfl⟩
  · by_cases hj : j < τ.length
    · rw [List.append_assoc, List.getElem?_append_left hj] at h
      exact .inl ⟨by show ε.length + j < ε.length + τ.length; omega, h⟩
    · rw [List.append_assoc, List.getElem?_append_right (by omega)] at h
      refine .inr ?_
      cases e : j - τ.length with
      | zero =>
        rw [e] at h
        simp at h
        obtain ⟨rfl, rfl⟩ := h
        have ej : j = τ.length := by omega
        subst ej
        exact ⟨Ar, rr, n1, fun a ha => by
          show (if a ∈ Ar then some (ε.length + τ.length) else _) = _
          rw [if_pos ha]⟩
      | succ m =>
        rw [e] at h
        obtain ⟨B, q1, q2, q3⟩ := h2 m w' v' (by simpa using h)
        refine ⟨B, q1, q2, fun a ha => ?_⟩
        obtain ⟨t1, t2⟩ := q3 a ha
        show (if a ∈ Ar then some (ε.length + τ.length) else match ψ a with
          | some i => some i
          | none => if a ∈ A then none else φ a) = _
        rw [if_neg (fun z => n3 a z a t2 rfl), t1]
        show some (ε.length + τ.length + 1 + m) = some (ε.length + j)
        congr 1
        omega
end

/-! ### lent: an own variable's content goes with the call and comes back -/
def tLend (te : TEA) : TEA := fun ε Q => te ε fun rv ε1 => match rv with
  | .sl i => ∃ w, ε1[i]? = some (some w) ∧ ∀ u, Q (.fl i [] u w) (ε1.set i (some (.v u)))
  | .v w => Q (.v w) ε1
  | .fl i p u w => Q (.fl i p u w) ε1
section
variable {X : Cx} {e o : Expr} {te to : TEA} {es : List Expr} {t : TAA} {pos p apos : Pos} {x m : Str}
theorem Sta.lend {K : PySem.W.Frag} {E : Ent} {F H : Hp} {φ : Addr → Option Nat} {ε : Env} {σ : L2.St} {τ : List (W × V)} {i : Nat} {v : V} {w : W} (S : Sta K E F φ ε σ H τ) (ok : σ[i]? = some (some v)) (h : ε[i]? = some (some w)) :
    ∃ φ', Sta K E F φ' (ε.set i (some (.v v))) σ H (τ ++ [(w, v)]) := by
  obtain ⟨F2, φ2, S2⟩ := Sta.take (rv := .sl i) (v := v) S ok (Tak.mv h)
  obtain ⟨hi, _⟩ := List.getElem?_eq_some_iff.mp h
  have S2 : Sta K E F2 φ2 (ε.set i none) σ H (τ ++ [(w, v)]) := S2
  obtain ⟨v', A, e, r, nd, hA⟩ := S.slot i w h
  rw [ok] at e
  cases e
  refine ⟨fun a => if a ∈ A then some (ε.length + τ.length) else φ a, S.step (R := fun k => k ≠ i) (Stp.tag S (fun a j h hj => ?_) fun a j h => ?_) (by rw [List.length_set]; exact S.len) (List.length_set ..) S.fix (fun j w' h' => ?_) fun j w' v' h' => ?_⟩
  · show (if a ∈ A then some (ε.length + τ.length) else φ a) = some j
    rw [if_neg (fun z => by
      have q := hA a z
      rw [h] at q
      exact hj (Option.some.inj q))]
    exact h
  · have h : (if a ∈ A then some (ε.length + τ.length) else φ a) = some j := h
    by_cases z : a ∈ A
    · exact ⟨i, hA a z⟩
    · rw [if_neg z] at h; exact ⟨j, h⟩
  · rcases set_get h' with ⟨rfl, e⟩ | ⟨ne, h'⟩
    · cases e
      exact .inr ⟨v, [], ok, by rw [rep_v]; exact ⟨rfl, rfl⟩, List.nodup_nil, fun a ha => nomatch ha⟩
    · exact .inl ⟨ne, h', rfl⟩
  · rcases getE_app h' with h' | ⟨rfl, e⟩
    · exact .inl ⟨by show ε.length + j ≠ i; omega, h'⟩
    · cases e
      exact .inr ⟨A, r, nd, fun a ha => by show (if a ∈ A then some (ε.length + τ.length) else φ a) = _; rw [if_pos ha]⟩
theorem ae_lend (h : AE X e te) : AE X e (tLend te) := by
  obtain ⟨tH, p, q⟩ := h.ex
  refine ⟨tH, p, fun E F φ ε σ H τ Q QH S h k => ?_⟩
  refine q E F φ ε σ H τ _ _ S h fun rv v F1 φ1 ε1 H1 S1 ok h1 => ?_
  cases rv with
  | v w => exact k _ v F1 φ1 ε1 H1 S1 ok h1
  | fl i p u w => exact k _ v F1 φ1 ε1 H1 S1 ok h1
  | sl i =>
    obtain ⟨w, e, h1⟩ := h1
    obtain ⟨φ2, S2⟩ := Sta.lend (i := i) (v := v) S1 ok e
    exact k (.fl i [] v w) v F1 φ2 _ H1 S2 rfl (h1 v)
/-- the arguments of a call: all in hand -/
def argW : EV → Option W
  | .v w => some w
  | .fl _ _ _ w => some w
  | .sl _ => none
def argWs : List EV → Option (List W)
  | [] => some []
  | x :: xs => (argW x).bind fun w => (argWs xs).map fun ws => w :: ws
/-- an argument comes back with a new content -/
def put : EV → W → Env → Option Env
  | .v _, _, ε => some ε
  | .sl i, w, ε => some (ε.set i (some w))
  | .fl i p u _, w, ε => bck (.fl i p u w) ε
def puts : List EV → List W → Env → Option Env
  | [], [], ε => some ε
  | x :: xs, w :: ws, ε => (puts xs ws ε).bind fun ε1 => put x w ε1
  | _, _, _ => none
theorem evTs_arg {σ : L2.St} : ∀ {xs : List EV} {vs : List V} {ws : List W} {τ : List (W × V)}, argWs xs = some ws → evOks σ xs vs → evTs τ xs vs = τ ++ ws.zip vs ∧ vs.length = ws.length
  | [], [], ws, τ, h, _ => by
    have h : some [] = some ws := h
    cases h
    simp [evTs]
  | [], _ :: _, _, _, _, ok => ok.elim
  | _ :: _, [], _, _, _, ok => ok.elim
  | x :: xs, v :: vs, ws, τ, h, ok => by
    have h : (argW x).bind (fun w => (argWs xs).map fun ws => w :: ws) = some ws := h
    cases h1 : argW x with
    | none => rw [h1] at h; cases h
    | some w =>
      rw [h1] at h
      cases h2 : argWs xs with
      | none => rw [h2] at h; cases h
      | some ws' =>
        rw [h2] at h
        cases h
        have e0 : evT x v τ = τ ++ [(w, v)] := by
          cases x with
          | v z => cases h1; rfl
          | sl i => cases h1
          | fl i p u z => cases h1; rfl
        obtain ⟨e, l⟩ := evTs_arg (τ := evT x v τ) h2 ok.2
        refine ⟨?_, by simp [l]⟩
        show evTs (evT x v τ) xs vs = _
        rw [e, e0]
        simp
theorem Sta.putBack {K : PySem.W.Frag} {E : Ent} {F H : Hp} {σ : L2.St} : ∀ {xs : List EV} {vs : List V} {ws ws' : List W} {τ : List (W × V)} {φ : Addr → Option Nat} {ε ε' : Env}, argWs xs = some ws → evOks σ xs vs → Sta K E F φ ε σ H (τ ++ ws'.zip vs) → puts xs ws' ε = some ε' → ∃ φ', Sta K E F φ' ε' σ H τ
  | [], vs, ws, ws', τ, φ, ε, ε', _, _, S, c => by
    cases ws' with
    | nil =>
      have c : some ε = some ε' := c
      cases c
      exact ⟨φ, by simpa using S⟩
    | cons _ _ => cases c
  | _ :: _, [], _, _, _, _, _, _, _, ok, _, _ => ok.elim
  | x :: xs, v :: vs, ws, ws', τ, φ, ε, ε', h, ok, S, c => by
    cases ws' with
    | nil => cases c
    | cons w' ws' =>
      have h : (argW x).bind (fun w => (argWs xs).map fun ws => w :: ws) = some ws := h
      cases h1 : argW x with
      | none => rw [h1] at h; cases h
      | some w =>
        rw [h1] at h
        cases h2 : argWs xs with
        | none => rw [h2] at h; cases h
        | some ws2 =>
          have c : (puts xs ws' ε).bind (fun ε1 => put x w' ε1) = some ε' := c
          cases c1 : puts xs ws' ε with
          | none => rw [c1] at c; cases c
          | some ε1 =>
            rw [c1] at c
            have e : τ ++ (w' :: ws').zip (v :: vs) = (τ ++ [(w', v)]) ++ ws'.zip vs := by simp
            rw [e] at S
            obtain ⟨φ1, S1⟩ := Sta.putBack h2 ok.2 S c1
            cases x with
            | v z =>
              have c : some ε1 = some ε' := c
              cases c
              exact ⟨φ1, Sta.drop S1⟩
            | sl i => cases h1
            | fl i p u z => exact Sta.back (rv := .fl i p u w') S1 ok.1 c
def tCall (sp : SpW) (t : TAA) : TEA := fun ε Q => t ε fun xs ε1 => ∃ ws, argWs xs = some ws ∧ sp ws fun r ws' => ws'.length = ws.length ∧ ∃ ε2, puts xs ws' ε1 = some ε2 ∧ Q (.v r) ε2
variable {CX : CXT} {k : Nat} {f C : Addr} {fd : FuncData} {ps : List Str} {sp : SpW}
theorem call_core {E : Ent} {F φ ε1 σ H τ} {xs : List EV} {vs : List V} {ws : List W} {Q : EV → Env → Prop} {QH : VK} {E' : XK} (S : Sta X.K E F φ ε1 σ H (evTs τ xs vs)) (ok : evOks σ xs vs) (ha : argWs xs = some ws)
    (h : sp ws fun r ws' => ws'.length = ws.length ∧ ∃ ε2, puts xs ws' ε1 = some ε2 ∧ Q (.v r) ε2) (mono : ∀ ws Q Q', (∀ r ws', Q r ws' → Q' r ws') → sp ws Q → sp ws Q')
    (k : ∀ rv v F' φ' ε' H', Sta X.K E F' φ' ε' σ H' (evT rv v τ) → evOk rv σ v → Q rv ε' → QH v H') : spA X.K sp vs H QH E' := by
  obtain ⟨e, l⟩ := evTs_arg (τ := τ) ha ok
  rw [e] at S
  obtain ⟨A, r, nd, hA⟩ := S.gather l
  refine ⟨F, ws, A, S.sub, r, nd, fun a ha => ?_, mono _ _ _ (fun r ws' h v F' H' Ar A' s fn sub pre old rr ra nd' hn => ?_) h⟩
  · obtain ⟨i, q, _⟩ := hA a ha
    exact ⟨(S.own a i q).1, (S.own a i q).2.1⟩
  · obtain ⟨hl, ε2, c, q⟩ := h
    obtain ⟨φ2, S2⟩ := S.called (by rw [l, hl]) hA s fn sub pre old rr ra nd' hn
    obtain ⟨φ3, S3⟩ := Sta.putBack ha ok S2 c
    exact k (.v r) v F' φ3 ε2 H' S3 True.intro q
/-- a promise that more wishes keep -/
abbrev SpW.Mono (sp : SpW) : Prop := ∀ ws Q Q', (∀ r ws', Q r ws' → Q' r ws') → sp ws Q → sp ws Q'
theorem ae_call (F : FnOk X.prog X.w X.K X.mg X.base CX0 k f fd ps (spA X.K sp)) (mo : SpW.Mono sp) (hr : Room k X.A) (hg : Gl X x) (hm : X.mg x = some (.ref f)) (hk : PySem.W.keepIn X.K (.ref f) = true) (hb : Binds X.K fd ps [])
    (ha : AA X (e :: es) t) (hdb : (x == ("__debug__" : Str)) = false := by decide) (he : starEach (e :: es) X.env = (false, eval e X.env) :: starEach es X.env := by rfl) (hpl : (backTo pos (starEach es X.env)).any (·.1) = false := by rfl) :
    AE X (.Call (.Name x p) (e :: es) [] pos) (tCall sp t) := by
  obtain ⟨_, pa, qa⟩ := ha.ex
  refine ⟨_, pe_call (E := E0) F hr hg hm hk hb .nil pass0 pa hdb he hpl, fun E Fz φ ε σ H τ Q QH S h kk => ?_⟩
  refine qa E Fz φ ε σ H τ _ _ S h fun xs vs F1 φ1 ε1 H1 S1 ok h1 => ?_
  obtain ⟨ws, ha, h2⟩ := h1
  rw [List.append_nil]
  exact call_core S1 ok ha h2 mo kk
theorem ae_call0 (F : FnOk X.prog X.w X.K X.mg X.base CX0 k f fd ps (spA X.K sp)) (mo : SpW.Mono sp) (hr : Room k X.A) (hg : Gl X x) (hm : X.mg x = some (.ref f)) (hk : PySem.W.keepIn X.K (.ref f) = true) (hb : Binds X.K fd ps [])
    (hdb : (x == ("__debug__" : Str)) = false := by decide) : AE X (.Call (.Name x p) [] [] pos) (tCall sp tNil) := by
  refine ⟨_, pe_call0 (E := E0) F hr hg hm hk hb .nil pass0 hdb, fun E Fz φ ε σ H τ Q QH S h kk => ?_⟩
  obtain ⟨ws, ha, h2⟩ := h
  exact call_core (xs := []) (vs := []) (E' := E0) S True.intro ha h2 mo kk
/-- o.m(e, ..), o an instance -/
def tMeth (C : Addr) (m : Str) (sp : SpW) (to : TEA) (t : TAA) : TEA := fun ε Q => to ε fun x ε1 => ∃ fs, cnt ε1 x = some (.ins C fs) ∧ fs.lookup m = none ∧ t ε1 fun xs ε2 => ∃ ws, argWs (x :: xs) = some ws ∧ sp ws fun r ws' => ws'.length = ws.length ∧ ∃ ε3, puts (x :: xs) ws' ε2 = some ε3 ∧ Q (.v r) ε3
theorem Repf.lookup {K : PySem.W.Frag} {F H : Hp} {f : Str} : ∀ {fs : List (Str × W)} {us : List (Str × V)} {A : List Addr}, Repf K F H fs us A → fs.lookup f = none → us.lookup f = none
  | [], us, A, h, _ => by rw [repf_nil] at h; rw [h.1]; rfl
  | (g, y) :: r, us, A, h, e => by
    rw [repf_cons] at h
    obtain ⟨v, us', B, C, rfl, rfl, p, q⟩ := h
    rw [List.lookup_cons] at e ⊢
    cases hb : f == g with
    | true => rw [hb] at e; cases e
    | false => rw [hb] at e; exact Repf.lookup q e
theorem ae_meth {pl : Sem Bool} (he : AE X o to) (c : Cls X.K C) (hm : Meth X.K C m f) (F : FnOk X.prog X.w X.K X.mg X.base CX0 k f fd ps (spA X.K sp)) (mo : SpW.Mono sp) (hr : Room k X.A) (hb : Binds X.K fd ps []) (ha : AA X (e :: es) t)
    (hst : starEach (e :: es) X.env = (false, eval e X.env) :: starEach es X.env := by rfl) (hpl : (backTo pos (starEach es X.env)).any (·.1) = false := by rfl)
    (ht : eval (.Call (.Attribute o m apos) (e :: es) [] pos) X.env = (do
      let ov ← eval o X.env
      standAt apos.atName
      let (f, first) ← holding [ov] (getMethod ov m pl)
      callWith pos f first (backTo pos (starEach (e :: es) X.env)) (backToKw pos (keywordEach [] X.env))) := by rfl) :
    AE X (.Call (.Attribute o m apos) (e :: es) [] pos) (tMeth C m sp to t) := by
  obtain ⟨_, po, qo⟩ := he.ex
  obtain ⟨_, pa, qa⟩ := ha.ex
  refine ⟨_, pe_meth (E := E0) po c hm F hr hb .nil pass0 pa hst hpl ht, fun E Fz φ ε σ H τ Q QH S h kk => ?_⟩
  refine qo E Fz φ ε σ H τ _ _ S h fun x v F1 φ1 ε1 H1 S1 ok1 h1 => ?_
  obtain ⟨fs, c1, hl, h1⟩ := h1
  obtain ⟨A, r, _, _⟩ := S1.view ok1 c1
  rw [rep_ins] at r
  obtain ⟨a, dx, us, B, rfl, rfl, ho, rf⟩ := r
  refine ⟨a, dx, us, rfl, ho, rf.lookup hl, ?_⟩
  refine qa E F1 φ1 ε1 σ H1 _ _ _ S1 h1 fun xs vs F2 φ2 ε2 H2 S2 ok2 h2 => ?_
  obtain ⟨ws, ha, h2⟩ := h2
  rw [List.append_nil]
  exact call_core (xs := x :: xs) (vs := V.ref a :: vs) S2 ⟨ok1, ok2⟩ ha h2 mo kk
theorem ae_meth0 {pl : Sem Bool} (he : AE X o to) (c : Cls X.K C) (hm : Meth X.K C m f) (F : FnOk X.prog X.w X.K X.mg X.base CX0 k f fd ps (spA X.K sp)) (mo : SpW.Mono sp) (hr : Room k X.A) (hb : Binds X.K fd ps [])
    (ht : eval (.Call (.Attribute o m apos) [] [] pos) X.env = (do
      let ov ← eval o X.env
      standAt apos.atName
      let (f, first) ← holding [ov] (getMethod ov m pl)
      callWith pos f first (backTo pos (starEach [] X.env)) (backToKw pos (keywordEach [] X.env))) := by rfl) :
    AE X (.Call (.Attribute o m apos) [] [] pos) (tMeth C m sp to tNil) := by
  obtain ⟨_, po, qo⟩ := he.ex
  refine ⟨_, pe_meth0 (E := E0) po c hm F hr hb .nil pass0 ht, fun E Fz φ ε σ H τ Q QH S h kk => ?_⟩
  refine qo E Fz φ ε σ H τ _ _ S h fun x v F1 φ1 ε1 H1 S1 ok1 h1 => ?_
  obtain ⟨fs, c1, hl, h1⟩ := h1
  obtain ⟨A, r, _, _⟩ := S1.view ok1 c1
  rw [rep_ins] at r
  obtain ⟨a, dx, us, B, rfl, rfl, ho, rf⟩ := r
  obtain ⟨ws, ha, h2⟩ := h1
  refine ⟨a, dx, us, rfl, ho, rf.lookup hl, ?_⟩
  exact call_core (xs := [x]) (vs := [V.ref a]) (E' := E0) S1 ⟨ok1, True.intro⟩ ha h2 mo kk
/-- C(e, ..): __init__ from an instance without attributes -/
def tMake (C : Addr) (sp : SpW) (t : TAA) : TEA := fun ε Q => t ε fun xs ε1 => ∃ ws, argWs xs = some ws ∧ sp (.ins C [] :: ws) fun r ws' => r = .d .none ∧ ws'.length = ws.length + 1 ∧ ∃ w0 wr ε2, ws' = w0 :: wr ∧ puts xs wr ε1 = some ε2 ∧ Q (.v w0) ε2
theorem make_core {E : Ent} {F φ ε1 σ H τ} {xs : List EV} {vs : List V} {ws : List W} {Q : EV → Env → Prop} {QH : VK} {E' : XK} (S : Sta X.K E F φ ε1 σ H (evTs τ xs vs)) (ok : evOks σ xs vs) (ha : argWs xs = some ws)
    (h : sp (.ins C [] :: ws) fun r ws' => r = .d .none ∧ ws'.length = ws.length + 1 ∧ ∃ w0 wr ε2, ws' = w0 :: wr ∧ puts xs wr ε1 = some ε2 ∧ Q (.v w0) ε2) (mono : SpW.Mono sp)
    (k : ∀ rv v F' φ' ε' H', Sta X.K E F' φ' ε' σ H' (evT rv v τ) → evOk rv σ v → Q rv ε' → QH v H') (x dx : Addr) (hx : H x = none) (hdx : H dx = none) (ne : dx ≠ x) :
    spA X.K sp (.ref x :: vs) (upd (upd H dx (.own x)) x (.ins C dx [])) (fun v H2 => v = .non ∧ QH (.ref x) H2) E' := by
  obtain ⟨e, l⟩ := evTs_arg (τ := τ) ha ok
  rw [e] at S
  -- the new instance below the arguments
  obtain ⟨A, r, nd, hA⟩ := S.gather l
  have nA : ∀ a ∈ A, a ≠ x ∧ a ≠ dx := fun a ha => by
    obtain ⟨i, q, _⟩ := hA a ha
    exact ⟨fun z => (S.own a i q).2.1 (z ▸ hx), fun z => (S.own a i q).2.1 (z ▸ hdx)⟩
  have g1 : ∀ b o, H b = some o → upd (upd H dx (.own x)) x (.ins C dx []) b = some o := fun b o h => by rw [upd_ne (ne_of_none h hx), upd_ne (ne_of_none h hdx)]; exact h
  have g2 : ∀ b, upd (upd H dx (.own x)) x (.ins C dx []) b = none → H b = none := fun b h => by
    by_cases z : b = x
    · rw [z]; exact hx
    · rw [upd_ne z] at h
      by_cases y : b = dx
      · rw [y]; exact hdx
      · rw [upd_ne y] at h; exact h
  have sub1 : Same F (upd (upd H dx (.own x)) x (.ins C dx [])) := fun b o h => g1 b o (S.sub b o h)
  have r1 : Reps X.K F (upd (upd H dx (.own x)) x (.ins C dx [])) (.ins C [] :: ws) (.ref x :: vs) (x :: A) := by
    rw [reps_cons]
    refine ⟨.ref x, vs, [x], A, rfl, rfl, ?_, Reps.keep (Same.refl _) ws vs A (fun a ha => by rw [upd_ne (nA a ha).1, upd_ne (nA a ha).2]) r⟩
    rw [rep_ins]
    exact ⟨x, dx, [], [], rfl, rfl, upd_same, by rw [repf_nil]; exact ⟨rfl, rfl⟩⟩
  refine ⟨F, .ins C [] :: ws, x :: A, sub1, r1, List.nodup_cons.mpr ⟨fun z => (nA x z).1 rfl, nd⟩, fun a ha => ?_, mono _ _ _ (fun r ws' h v F' H' Ar A' s fn sub pre old rr ra nd' hn => ?_) h⟩
  · rcases List.mem_cons.mp ha with z | z
    · subst z
      exact ⟨S.sub.free hx, by rw [upd_same]; simp⟩
    · obtain ⟨i, q, _⟩ := hA a z
      refine ⟨(S.own a i q).1, ?_⟩
      rw [upd_ne (nA a z).1, upd_ne (nA a z).2]
      exact (S.own a i q).2.1
  · obtain ⟨rfl, hl, w0, wr, ε2, rfl, c, q⟩ := h
    rw [rep_d, dq_none] at rr
    obtain ⟨rfl, rfl⟩ := rr
    refine ⟨rfl, ?_⟩
    rw [reps_cons] at ra
    obtain ⟨v0, vr, B, C', ev, rfl, ra1, ra2⟩ := ra
    cases ev
    -- as a call that hands back the instance
    obtain ⟨φ2, S2⟩ := S.called (A := A) (Ar := B) (A' := C') (r := w0) (v := .ref x) (by rw [l]; simpa using hl.symm) hA s (fun b h => by
      rcases fn b h with h | h | h
      · exact .inl h
      · rcases List.mem_cons.mp h with z | z
        · subst z; exact .inr (.inr hx)
        · exact .inr (.inl z)
      · exact .inr (.inr (g2 b h))) sub (fun b h => g2 b (pre b h)) (fun b o h hb => by
        have hbx : b ≠ x := ne_of_none h hx
        exact old b o (g1 b o h) fun z => by
          rcases List.mem_cons.mp z with y | y
          · exact hbx y
          · exact hb y) ra1 ra2 (by simpa using nd') (fun b hb => by
        obtain ⟨h1, h2, h3⟩ := hn b (by simpa using hb)
        refine ⟨h1, h2, ?_⟩
        rcases h3 with h3 | h3
        · rcases List.mem_cons.mp h3 with z | z
          · subst z; exact .inr hx
          · exact .inl z
        · exact .inr (g2 b h3))
    obtain ⟨φ3, S3⟩ := Sta.putBack ha ok S2 c
    exact k (.v w0) (.ref x) F' φ3 ε2 H' S3 True.intro q
theorem ae_make0 (M : Mk X.K C f) (F : FnOk X.prog X.w X.K X.mg X.base CX0 k f fd ps (spA X.K sp)) (mo : SpW.Mono sp) (hr : Room (k + 1) X.A) (hg : Gl X x) (hm : X.mg x = some (.ref C)) (hb : Binds X.K fd ps [])
    (hdb : (x == ("__debug__" : Str)) = false := by decide) : AE X (.Call (.Name x p) [] [] pos) (tMake C sp tNil) := by
  refine ⟨_, pe_make0 (E := E0) M F hr hg hm hb .nil pass0 hdb, fun E Fz φ ε σ H τ Q QH S h kk => ?_⟩
  obtain ⟨ws, ha, h2⟩ := h
  intro x dx hx hdx ne
  exact make_core (xs := []) (vs := []) S True.intro ha h2 mo kk x dx hx hdx ne
theorem ae_make (M : Mk X.K C f) (F : FnOk X.prog X.w X.K X.mg X.base CX0 k f fd ps (spA X.K sp)) (mo : SpW.Mono sp) (hr : Room (k + 1) X.A) (hg : Gl X x) (hm : X.mg x = some (.ref C)) (hb : Binds X.K fd ps [])
    (ha : AA X (e :: es) t) (hdb : (x == ("__debug__" : Str)) = false := by decide) (he : starEach (e :: es) X.env = (false, eval e X.env) :: starEach es X.env := by rfl) (hpl : (backTo pos (starEach es X.env)).any (·.1) = false := by rfl) :
    AE X (.Call (.Name x p) (e :: es) [] pos) (tMake C sp t) := by
  obtain ⟨_, pa, qa⟩ := ha.ex
  refine ⟨_, pe_make (E := E0) M F hr hg hm hb .nil pass0 pa hdb he hpl, fun E Fz φ ε σ H τ Q QH S h kk => ?_⟩
  refine qa E Fz φ ε σ H τ _ _ S h fun xs vs F1 φ1 ε1 H1 S1 ok h1 => ?_
  obtain ⟨ws, ha, h2⟩ := h1
  intro x dx hx hdx ne
  rw [List.append_nil]
  exact make_core S1 ok ha h2 mo kk x dx hx hdx ne
end
end Ab

namespace Ab
open PySem PySem.Spec PyProof.Rows L2

/-! ## statements -/
structure EndsA where
  nx : Env → Prop
  rt : EV → Env → Prop
  bk : Env → Prop := fun _ => False
  ct : Env → Prop := fun _ => False
abbrev TSA := EndsA → Env → Prop
structure Fits (K : PySem.W.Frag) (E : Ent) (τ : List (W × V)) (D : EndsA) (DH : Ends) : Prop where
  nx : ∀ F φ ε σ H, Sta K E F φ ε σ H τ → D.nx ε → DH.nx σ H
  rt : ∀ rv v F φ ε σ H, Sta K E F φ ε σ H (evT rv v τ) → evOk rv σ v → D.rt rv ε → DH.rt v H
  bk : ∀ F φ ε σ H, Sta K E F φ ε σ H τ → D.bk ε → DH.bk σ H
  ct : ∀ F φ ε σ H, Sta K E F φ ε σ H τ → D.ct ε → DH.ct σ H
structure AS (X : Cx) (bp : List Nat) (st : Stmt) (t : TSA) : Prop where
  ex : ∃ tH : TS, PS X st tH ∧ ∀ (E : Ent) F φ ε σ H τ (D : EndsA) (DH : Ends), E.bp = bp → Sta X.K E F φ ε σ H τ → t D ε → Fits X.K E τ D DH → tH DH σ H
structure ASs (X : Cx) (bp : List Nat) (st : List Stmt) (t : TSA) : Prop where
  ex : ∃ tH : TS, PSs X st tH ∧ ∀ (E : Ent) F φ ε σ H τ (D : EndsA) (DH : Ends), E.bp = bp → Sta X.K E F φ ε σ H τ → t D ε → Fits X.K E τ D DH → tH DH σ H

section
variable {K : PySem.W.Frag} {E : Ent} {F F' H H' : Hp} {φ φ' : Addr → Option Nat} {ε ε' : Env} {σ σ' : L2.St} {τ τ' : List (W × V)} {rv : EV} {v : V} {w : W}
/-- the topmost row is stored -/
theorem Sta.store {i : Nat} (S : Sta K E F φ ε σ H (τ ++ [(w, v)])) (hi : i < ε.length) (hb : i ∉ E.bp) : ∃ φ', Sta K E F φ' (ε.set i (some w)) (σ.set i (some v)) H τ := by
  obtain ⟨A, r, nd, hA⟩ := S.tmp τ.length w v getE_last
  have S0 : Sta K E F φ ε σ H τ := Sta.drop S
  refine ⟨fun a => if a ∈ A then some i else if φ a = some i then none else φ a, S0.step (R := fun k => k ≠ i ∧ k < ε.length + τ.length) (Stp.tag S0 (fun a j h hj => ?_) fun a j h => ?_) (by rw [List.length_set, List.length_set]; exact S.len) (List.length_set ..) (fun j hj => ?_) (fun j w' h' => ?_) fun j w' v' h' => ?_⟩
  · show (if a ∈ A then some i else if φ a = some i then none else φ a) = some j
    rw [if_neg (fun z => by
      have q := hA a z
      rw [h] at q
      cases q
      exact absurd hj.2 (Nat.lt_irrefl _)), if_neg (fun z => by
      rw [h] at z
      exact hj.1 (Option.some.inj z))]
    exact h
  · have h : (if a ∈ A then some i else if φ a = some i then none else φ a) = some j := h
    by_cases z : a ∈ A
    · exact ⟨_, hA a z⟩
    · rw [if_neg z] at h
      by_cases y : φ a = some i
      · exact ⟨i, y⟩
      · rw [if_neg y] at h; exact ⟨j, h⟩
  · rw [List.getElem?_set_ne (fun e => hb (by rw [e]; exact hj))]
    exact S.fix j hj
  · rcases set_get h' with ⟨rfl, e⟩ | ⟨ne, h'⟩
    · cases e
      refine .inr ⟨v, A, by rw [List.getElem?_set_self (by rw [← S.len]; exact hi)], r, nd, fun a ha => ?_⟩
      show (if a ∈ A then some j else if φ a = some j then none else φ a) = some j
      rw [if_pos ha]
    · obtain ⟨hj, _⟩ := List.getElem?_eq_some_iff.mp h'
      exact .inl ⟨⟨ne, by omega⟩, h', List.getElem?_set_ne (Ne.symm ne)⟩
  · obtain ⟨hj, _⟩ := List.getElem?_eq_some_iff.mp h'
    exact .inl ⟨⟨by omega, by omega⟩, h'⟩
/-- the two topmost rows change places -/
theorem Sta.swap {a b : W × V} (S : Sta K E F φ ε σ H (τ ++ [a] ++ [b])) : ∃ φ', Sta K E F φ' ε σ H (τ ++ [b] ++ [a]) := by
  obtain ⟨A, ra, na, hA⟩ := S.tmp τ.length a.1 a.2 (by rw [List.getElem?_append_left (by simp)]; exact getE_last)
  obtain ⟨B, rb, nb, hB⟩ := S.tmp (τ.length + 1) b.1 b.2 (by
    have := @getE_last _ (τ ++ [a]) b
    rw [List.length_append] at this
    exact this)
  have S0 : Sta K E F φ ε σ H τ := by
    rw [List.append_assoc] at S
    exact Sta.drop S
  refine ⟨fun x => if x ∈ A then some (ε.length + (τ.length + 1)) else if x ∈ B then some (ε.length + τ.length) else φ x, S0.step (R := fun k => k < ε.length + τ.length) (Stp.tag S0 (fun x j h hj => ?_) fun x j h => ?_) S.len rfl S.fix (fun j w' h' => ?_) fun j w' v' h' => ?_⟩
  · show (if x ∈ A then some (ε.length + (τ.length + 1)) else if x ∈ B then some (ε.length + τ.length) else φ x) = some j
    rw [if_neg (fun z => by
      have q := hA x z
      rw [h] at q
      cases q
      exact absurd hj (Nat.lt_irrefl _)), if_neg (fun z => by
      have q := hB x z
      rw [h] at q
      cases q
      have hj : ε.length + (τ.length + 1) < ε.length + τ.length := hj
      omega)]
    exact h
  · have h : (if x ∈ A then some (ε.length + (τ.length + 1)) else if x ∈ B then some (ε.length + τ.length) else φ x) = some j := h
    by_cases z : x ∈ A
    · exact ⟨_, hA x z⟩
    · rw [if_neg z] at h
      by_cases y : x ∈ B
      · exact ⟨_, hB x y⟩
      · rw [if_neg y] at h; exact ⟨j, h⟩
  · obtain ⟨hj, _⟩ := List.getElem?_eq_some_iff.mp h'
    exact .inl ⟨by show j < ε.length + τ.length; omega, h', rfl⟩
  · rcases getE_app h' with h' | ⟨e1, e⟩
    · rcases getE_app h' with h' | ⟨e1, e⟩
      · obtain ⟨hj, _⟩ := List.getElem?_eq_some_iff.mp h'
        exact .inl ⟨by show ε.length + j < ε.length + τ.length; omega, h'⟩
      · subst e1
        subst e
        refine .inr ⟨B, rb, nb, fun x hx => ?_⟩
        show (if x ∈ A then some (ε.length + (τ.length + 1)) else if x ∈ B then some (ε.length + τ.length) else φ x) = some (ε.length + τ.length)
        rw [if_neg (fun z => by
          have q := hA x z
          rw [hB x hx] at q
          have q := Option.some.inj q
          omega), if_pos hx]
    · rw [List.length_append] at e1
      subst e
      have e1 : j = τ.length + 1 := e1
      subst e1
      refine .inr ⟨A, ra, na, fun x hx => ?_⟩
      show (if x ∈ A then some (ε.length + (τ.length + 1)) else if x ∈ B then some (ε.length + τ.length) else φ x) = _
      rw [if_pos hx]
theorem bck_len {ε ε' : Env} (h : bck rv ε = some ε') : ε'.length = ε.length := by
  cases rv with
  | v w => cases h; rfl
  | sl i => cases h; rfl
  | fl i p u w =>
    have h : (match ε[i]? with
      | some (some r) => match getP r p with
        | some (.v z) => if z = u then some (ε.set i (some (putP r p w))) else none
        | _ => none
      | _ => none) = some ε' := h
    split at h
    · split at h
      · split at h
        · cases h; rw [List.length_set]
        · cases h
      · cases h
    · cases h
end

section
variable {X : Cx} {bp : List Nat} {st : Stmt} {rest : List Stmt} {t u : TSA} {e : Expr} {te : TEA} {pos : Pos}
def tNext : TSA := fun D ε => D.nx ε
def tSeq (t u : TSA) : TSA := fun D ε => t { D with nx := u D } ε
theorem ass_nil : ASs X bp [] tNext := ⟨_, pss_nil, fun E F φ ε σ H τ D DH _ S h f => f.nx F φ ε σ H S h⟩
theorem ass_cons (h1 : AS X bp st t) (h2 : ASs X bp rest u) : ASs X bp (st :: rest) (tSeq t u) := by
  obtain ⟨_, p1, q1⟩ := h1.ex
  obtain ⟨_, p2, q2⟩ := h2.ex
  exact ⟨_, pss_cons p1 p2, fun E F φ ε σ H τ D DH hb S h f => q1 E F φ ε σ H τ _ _ hb S h ⟨fun F φ ε σ H S h => q2 E F φ ε σ H τ D DH hb S h f, f.rt, f.bk, f.ct⟩⟩
theorem ass_one (h1 : AS X bp st t) : ASs X bp [st] t := let ⟨_, p1, q1⟩ := h1.ex; ⟨_, pss_one p1, q1⟩
theorem as_pass : AS X bp (.Pass pos) tNext := ⟨_, ps_pass, fun E F φ ε σ H τ D DH _ S h f => f.nx F φ ε σ H S h⟩
def tBreak : TSA := fun D ε => D.bk ε
def tCont : TSA := fun D ε => D.ct ε
theorem as_break : AS X bp (.Break pos) tBreak := ⟨_, ps_break, fun E F φ ε σ H τ D DH _ S h f => f.bk F φ ε σ H S h⟩
theorem as_continue : AS X bp (.Continue pos) tCont := ⟨_, ps_continue, fun E F φ ε σ H τ D DH _ S h f => f.ct F φ ε σ H S h⟩
def tNever : TSA := fun _ _ => False
theorem as_never : AS X bp st tNever := ⟨_, ps_never, fun E F φ ε σ H τ D DH _ S h f => h⟩
theorem ass_never {sts : List Stmt} : ASs X bp sts tNever := ⟨_, pss_never, fun E F φ ε σ H τ D DH _ S h f => h⟩
theorem as_doc {x j pos pos'} : AS X bp (.Expr (.Constant (.str x) j pos) pos') tNext := ⟨_, ps_doc, fun E F φ ε σ H τ D DH _ S h f => f.nx F φ ε σ H S h⟩
def tDrop (te : TEA) : TSA := fun D ε => te ε fun rv ε1 => ∃ ε2, bck rv ε1 = some ε2 ∧ D.nx ε2
theorem as_expr (he : AE X e te) (hs : swapsWith e none pos.line X.env = pure false := by rfl) : AS X bp (.Expr e pos) (tDrop te) := by
  obtain ⟨_, p, q⟩ := he.ex
  refine ⟨_, ps_expr p hs, fun E F φ ε σ H τ D DH _ S h f => ?_⟩
  refine q E F φ ε σ H τ _ _ S h fun rv v F1 φ1 ε1 H1 S1 ok h1 => ?_
  obtain ⟨ε2, b, h2⟩ := h1
  obtain ⟨φ2, S2⟩ := S1.back ok b
  exact f.nx F1 φ2 ε2 σ H1 S2 h2
def tRet (te : TEA) : TSA := fun D ε => te ε D.rt
theorem as_ret (he : AE X e te) : AS X bp (.Return (some e) pos) (tRet te) := by
  obtain ⟨_, p, q⟩ := he.ex
  exact ⟨_, ps_ret p, fun E F φ ε σ H τ D DH _ S h f => q E F φ ε σ H τ _ _ S h fun rv v F1 φ1 ε1 H1 S1 ok h1 => f.rt rv v F1 φ1 ε1 σ H1 S1 ok h1⟩
def tRetN : TSA := fun D ε => D.rt (.v (.d .none)) ε
theorem as_retN : AS X bp (.Return none pos) tRetN := ⟨_, ps_retN, fun E F φ ε σ H τ D DH _ S h f => by
  obtain ⟨φ', S'⟩ := S.pushD (x := .none) (v := .non) (by rw [dq_none])
  exact f.rt (.v (.d .none)) .non F φ' ε σ H S' True.intro h⟩
def tIfS (c : TTA) (t u : TSA) : TSA := fun D ε => c ε fun b ε1 => if b = true then t D ε1 else u D ε1
theorem as_if {c : Expr} {a b : List Stmt} {tc : TTA} (hc : AT X c tc) (ha : ASs X bp a t) (hb : ASs X bp b u) : AS X bp (.If c a b pos) (tIfS tc t u) := by
  obtain ⟨_, pc, qc⟩ := hc.ex
  obtain ⟨_, pa, qa⟩ := ha.ex
  obtain ⟨_, pb, qb⟩ := hb.ex
  refine ⟨_, ps_if pc pa pb, fun E F φ ε σ H τ D DH he S h f => ?_⟩
  refine qc E F φ ε σ H τ _ _ S h fun b F1 φ1 ε1 H1 S1 h1 => ?_
  cases b with
  | true => exact iteT (qa E F1 φ1 ε1 σ H1 τ D DH he S1 h1 f)
  | false => exact iteF (qb E F1 φ1 ε1 σ H1 τ D DH he S1 h1 f)

/-! ### targets -/
abbrev TGA := W → Env → (Env → Prop) → Prop
abbrev TGsA := List PyData → Env → (Env → Prop) → Prop
structure AG (X : Cx) (bp ts : List Nat) (tg : Expr) (g : TGA) : Prop where
  ex : ∃ gH : TG, PG X tg gH ∧ ∀ (E : Ent) F φ ε σ H τ w v (Q : Env → Prop) (QH : L2.St → Hp → Prop), E.bp = bp → Sta X.K E F φ ε σ H (τ ++ [(w, v)]) → g w ε Q →
    (∀ F' φ' ε' σ' H', Sta X.K E F' φ' ε' σ' H' τ → ε'.length = ε.length → Same F F' → (∀ j, j ∉ ts → σ'[j]? = σ[j]?) → Q ε' → QH σ' H') → gH v σ H QH
structure AGs (X : Cx) (bp ts : List Nat) (tgs : List Expr) (g : TGsA) : Prop where
  ex : ∃ gH : TGs, PGs X tgs gH ∧ ∀ (E : Ent) F φ ε σ H τ ds vs (Q : Env → Prop) (QH : L2.St → Hp → Prop), E.bp = bp → Sta X.K E F φ ε σ H τ → Dqs X.K F ds vs → g ds ε Q →
    (∀ F' φ' ε' σ' H', Sta X.K E F' φ' ε' σ' H' τ → ε'.length = ε.length → Same F F' → (∀ j, j ∉ ts → σ'[j]? = σ[j]?) → Q ε' → QH σ' H') → gH vs σ H QH
def gName (i : Nat) : TGA := fun w ε Q => i < ε.length ∧ Q (ε.set i (some w))
theorem ag_name {i : Nat} {x : Str} (hN : X.N.Nodup) (hi : X.N[i]? = some x) (hx : Loc X.env.scope x) (hb : i ∉ bp := by decide) (hf : X.fn x = true ∨ X.env.scope.names.lookup x = some .local := by first | exact .inl rfl | exact .inr rfl | assumption) : AG X bp [i] (.Name x pos) (gName i) := by
  refine ⟨_, pg_name hN hi hx hf, fun E F φ ε σ H τ w v Q QH he S h k => ?_⟩
  subst he
  obtain ⟨φ', S'⟩ := S.store h.1 hb
  exact k F φ' _ _ H S' (List.length_set ..) (Same.refl _) (fun j hj => List.getElem?_set_ne (fun e => hj (by rw [e]; exact List.mem_singleton.mpr rfl))) h.2
def gNil : TGsA := fun ds ε Q => ds = [] ∧ Q ε
def gCons (t : TGA) (u : TGsA) : TGsA := fun ds ε Q => ∃ d r, ds = d :: r ∧ t (.d d) ε fun ε' => u r ε' Q
theorem ags_nil : AGs X bp [] [] gNil := ⟨_, pgs_nil, fun E F φ ε σ H τ ds vs Q QH he S dq h k => by
  obtain ⟨rfl, h⟩ := h
  rw [dqs_nil] at dq
  exact ⟨dq, k F φ ε σ H S rfl (Same.refl _) (fun _ _ => rfl) h⟩⟩
theorem ags_cons {ts ts2 : List Nat} {e : Expr} {es : List Expr} {t : TGA} {u : TGsA} (h1 : AG X bp ts e t) (h2 : AGs X bp ts2 es u)
    (hs : (assignEach (e :: es) X.env).map (·.2) = assign e X.env :: (assignEach es X.env).map (·.2) := by rfl) : AGs X bp (ts ++ ts2) (e :: es) (gCons t u) := by
  obtain ⟨_, p1, q1⟩ := h1.ex
  obtain ⟨_, p2, q2⟩ := h2.ex
  refine ⟨_, pgs_cons p1 p2 hs, fun E F φ ε σ H τ ds vs Q QH he S dq h k => ?_⟩
  obtain ⟨d, r, rfl, h⟩ := h
  rw [dqs_cons] at dq
  obtain ⟨v, vr, rfl, d1, d2⟩ := dq
  obtain ⟨φ1, S1⟩ := S.pushD d1
  refine ⟨v, vr, rfl, q1 E F φ1 ε σ H τ _ v _ _ he S1 h fun F2 φ2 ε2 σ2 H2 S2 l2 s2 g2 h2 => ?_⟩
  exact q2 E F2 φ2 ε2 σ2 H2 τ r vr Q QH he S2 (Dqs.mono s2 _ _ d2) h2 fun F3 φ3 ε3 σ3 H3 S3 l3 s3 g3 h3 => k F3 φ3 ε3 σ3 H3 S3 (l3.trans l2) (s2.trans s3) (fun j hj => (g3 j (fun z => hj (List.mem_append_right _ z))).trans (g2 j (fun z => hj (List.mem_append_left _ z)))) h3
/-- (a, b, ..) = a tuple -/
def gTup (n : Nat) (t : TGsA) : TGA := fun w ε Q => ∃ ds, w = .d (.tuple ds) ∧ ds.length = n ∧ t ds ε Q
theorem ag_tup {ts : List Nat} {es : List Expr} {k : Nat} {t : TGsA} {n : Nat} (hc : X.calm = true) (h : AGs X bp ts es t)
    (hn : (assignEach es X.env).length = n := by rfl) (hst : (assignEach es X.env).findIdx? (·.1) = none := by rfl) : AG X bp ts (.Tuple es k pos) (gTup n t) := by
  obtain ⟨_, p, q⟩ := h.ex
  refine ⟨_, pg_tup hc p hn hst, fun E F φ ε σ H τ w v Q QH he S h k => ?_⟩
  obtain ⟨ds, rfl, hl, h⟩ := h
  obtain ⟨A, r, _, _⟩ := S.tmp τ.length _ v getE_last
  rw [rep_d, dq_tup] at r
  obtain ⟨⟨a, vs, rfl, sq, dq⟩, rfl⟩ := r
  exact ⟨a, vs, rfl, S.sub.sqT sq, by rw [dq.len]; exact hl, q E F φ ε σ H τ ds vs Q QH he (Sta.drop S) dq h k⟩
/-- target = value -/
def tAsg (te : TEA) (g : TGA) : TSA := fun D ε => te ε fun rv ε1 => ∃ w ε2, Tak rv ε1 w ε2 ∧ g w ε2 D.nx
theorem as_asg {ts : List Nat} {tg e : Expr} {te : TEA} {g : TGA} (he : AE X e te) (hg : AG X bp ts tg g) (hs : swapsWithSole [tg] e pos.line X.env = pure false := by rfl) (hw : swappedStores [tg] e X.env = pure none := by rfl)
    (h1 : (assignEach [tg] X.env).map (·.2) = [assign tg X.env] := by rfl) : AS X bp (.Assign [tg] e pos) (tAsg te g) := by
  obtain ⟨_, p, q⟩ := he.ex
  obtain ⟨_, pg, qg⟩ := hg.ex
  refine ⟨_, ps_asg p pg hs hw h1, fun E F φ ε σ H τ D DH hb S h f => ?_⟩
  refine q E F φ ε σ H τ _ _ S h fun rv v F1 φ1 ε1 H1 S1 ok h1 => ?_
  obtain ⟨w, ε2, tk, h2⟩ := h1
  obtain ⟨F2, φ2, S2⟩ := S1.take ok tk
  exact qg E F2 φ2 ε2 σ H1 τ w v _ _ hb S2 h2 fun F3 φ3 ε3 σ3 H3 S3 _ _ _ h3 => f.nx F3 φ3 ε3 σ3 H3 S3 h3
theorem as_set {i : Nat} {x : Str} {e : Expr} {te : TEA} {pos' : Pos} (hN : X.N.Nodup) (hi : X.N[i]? = some x) (hx : Loc X.env.scope x) (he : AE X e te) (hb : i ∉ bp := by decide) (hs : swapsWith e (some (.Name x pos')) pos.line X.env = pure false := by rfl)
    (hf : X.fn x = true ∨ X.env.scope.names.lookup x = some .local := by first | exact .inl rfl | exact .inr rfl | assumption) : AS X bp (.Assign [.Name x pos'] e pos) (tAsg te (gName i)) := by
  obtain ⟨_, p, q⟩ := he.ex
  refine ⟨_, ps_set hN hi hx p hs hf, fun E F φ ε σ H τ D DH he S h f => ?_⟩
  subst he
  refine q E F φ ε σ H τ _ _ S h fun rv v F1 φ1 ε1 H1 S1 ok h1 => ?_
  obtain ⟨w, ε2, tk, hl, h2⟩ := h1
  obtain ⟨F2, φ2, S2⟩ := S1.take ok tk
  obtain ⟨φ3, S3⟩ := S2.store hl hb
  exact f.nx F2 φ3 _ _ H1 S3 h2
/-- name op= e, of values that don't change -/
def tAug (i : Nat) (R : W → W → W → Prop) (te : TEA) : TSA := fun D ε => ∃ x, ε[i]? = some (some (.d x)) ∧ te ε fun rv ε1 => ∃ w r ε2, cnt ε1 rv = some w ∧ bck rv ε1 = some ε2 ∧ R (.d x) w r ∧ i < ε2.length ∧ D.nx (ε2.set i (some r))
theorem as_aug {i : Nat} {x : Str} {e : Expr} {te : TEA} {op : Operator} {R : W → W → W → Prop} {pos' : Pos} (hN : X.N.Nodup) (hi : X.N[i]? = some x) (hx : Loc X.env.scope x) (he : AE X e te) (ho : OpA X (inplaceOp op) R) (hb : i ∉ bp := by decide)
    (hf : X.fn x = true ∨ X.env.scope.names.lookup x = some .local := by first | exact .inl rfl | exact .inr rfl | assumption) : AS X bp (.AugAssign (.Name x pos') op e pos) (tAug i R te) := by
  obtain ⟨r, po, qo⟩ := ho.ex
  obtain ⟨_, p, q⟩ := he.ex
  refine ⟨_, ps_aug (ti := fun x y H Q => r x y H Q) hN hi hx p (fun pins s σ H x y v u Q I rx ry h => po pins s σ H x y v u Q I rx ry h) hf, fun E F φ ε σ H τ D DH he S h f => ?_⟩
  subst he
  obtain ⟨x, ex, h⟩ := h
  obtain ⟨vx, A, es, rx, _, _⟩ := S.slot i _ ex
  rw [rep_d] at rx
  obtain ⟨φ0, S0⟩ := S.pushD rx.1
  refine ⟨vx, es, q E F φ0 ε σ H _ _ _ S0 h fun rv v F1 φ1 ε1 H1 S1 ok h1 => ?_⟩
  obtain ⟨w, rr, ε2, c, b, hr, hl, h2⟩ := h1
  obtain ⟨B, ry, _, _⟩ := S1.view ok c
  obtain ⟨φ2, S2⟩ := S1.back ok b
  obtain ⟨B0, rx0, _, _⟩ := S2.tmp τ.length _ vx getE_last
  refine qo F1 H1 _ w vx v B0 B rr _ S2.sub rx0 ry hr fun z F' H' n => ?_
  obtain ⟨φ3, S3⟩ := (Sta.drop (r := [(_, vx)]) S2).new n
  obtain ⟨φ4, S4⟩ := S3.store hl hb
  exact f.nx F' φ4 _ _ H' S4 h2

/-! ### walks -/
structure DataIt (K : PySem.W.Frag) (J : It) (ds : List PyData) (G : Hp → Hp → Prop) : Prop where
  go : ∀ i F H, i < ds.length → Same F H → G F H → J.go i H
  stop : ∀ i F H, ds.length ≤ i → Same F H → G F H → J.stop i H
  yld : ∀ i d F H x H', ds[i]? = some d → Same F H → G F H → J.yld i H x H' → ∃ F', New K F H (.d d) x F' H'
abbrev TIA := Env → (EV → List PyData → Env → Prop) → Prop
structure AI (X : Cx) (tg iter : Expr) (ti : TIA) : Prop where
  ex : ∃ wi : TI, PI X tg iter wi ∧ ∀ (E : Ent) F φ ε σ H τ (R : EV → List PyData → Env → Prop) (RH : It → Hp → Prop), Sta X.K E F φ ε σ H τ → ti ε R →
    (∀ rv v w ds J F' φ' ε' H', Sta X.K E F' φ' ε' σ H' (evT rv v τ) → evOk rv σ v → cnt ε' rv = some w → DataIt X.K J ds (fun F H => ∃ A, Rep X.K F H w v A) → R rv ds ε' → RH J H') → wi σ H RH
/-- a content as a row of data -/
inductive DL : W → List PyData → Prop
  | d (ds : List PyData) : DL (.d (.list ds)) ds
  | L (ds : List PyData) : DL (.lst (ds.map W.d)) ds
inductive DT : W → List PyData → Prop
  | d (ds : List PyData) : DT (.d (.tuple ds)) ds
theorem DL.ok {K : PySem.W.Frag} {F H : Hp} {w : W} {ds : List PyData} {v : V} {A : List Addr} (h : DL w ds) (s : Same F H) (r : Rep K F H w v A) : ∃ a vs, v = .ref a ∧ SqL K H a vs ∧ Dqs K F ds vs := by
  cases h with
  | d ds =>
    rw [rep_d, dq_list] at r
    obtain ⟨⟨a, vs, e, q, d⟩, _⟩ := r
    exact ⟨a, vs, e, s.seq q, d⟩
  | L ds =>
    rw [rep_lst] at r
    obtain ⟨a, vs, B, e, _, q, d⟩ := r
    exact ⟨a, vs, e, SqL.of q, d.toD.1⟩
theorem DT.ok {K : PySem.W.Frag} {F H : Hp} {w : W} {ds : List PyData} {v : V} {A : List Addr} (h : DT w ds) (s : Same F H) (r : Rep K F H w v A) : ∃ a vs, v = .ref a ∧ SqT K H a vs ∧ Dqs K F ds vs := by
  cases h with
  | d ds =>
    rw [rep_d, dq_tup] at r
    obtain ⟨⟨a, vs, e, q, d⟩, _⟩ := r
    exact ⟨a, vs, e, s.sqT q, d⟩
theorem Dqs.get {K : PySem.W.Frag} {F : Hp} : ∀ {ds : List PyData} {vs : List V} {i : Nat} {d : PyData}, Dqs K F ds vs → ds[i]? = some d → ∃ v, vs[i]? = some v ∧ Dq K F d v
  | [], _, i, d, _, e => by simp at e
  | x :: ds, _, 0, d, h, e => by
    rw [dqs_cons] at h
    obtain ⟨v, r, rfl, p, _⟩ := h
    simp at e
    subst e
    exact ⟨v, rfl, p⟩
  | x :: ds, _, i + 1, d, h, e => by
    rw [dqs_cons] at h
    obtain ⟨v, r, rfl, _, q⟩ := h
    obtain ⟨v', e1, e2⟩ := Dqs.get (i := i) q (by simpa using e)
    exact ⟨v', by simpa using e1, e2⟩
def iL (te : TEA) : TIA := fun ε R => te ε fun rv ε1 => ∃ w ds, cnt ε1 rv = some w ∧ DL w ds ∧ R rv ds ε1
theorem ai_list {tg l : Expr} {te : TEA} (h : AE X l te) : AI X tg l (iL te) := by
  obtain ⟨_, p, q⟩ := h.ex
  refine ⟨_, pi_list p, fun E F φ ε σ H τ R RH S h k => ?_⟩
  refine q E F φ ε σ H τ _ _ S h fun rv v F1 φ1 ε1 H1 S1 ok h1 => ?_
  obtain ⟨w, ds, c, dl, h1⟩ := h1
  obtain ⟨A, r, _, _⟩ := S1.view ok c
  obtain ⟨a, vs, rfl, sq, dq⟩ := dl.ok S1.sub r
  refine ⟨a, rfl, ⟨vs, sq⟩, k rv (.ref a) w ds (Itl X.K a) F1 φ1 ε1 H1 S1 ok c ⟨fun i F H hi s g => ?_, fun i F H hi s g => ?_, fun i d F H x H' hd s g y => ?_⟩ h1⟩
  all_goals
    obtain ⟨A', r'⟩ := g
    obtain ⟨a', vs', e, sq', dq'⟩ := dl.ok s r'
    cases e
  · have hl : i < vs'.length := by rw [dq'.len]; exact hi
    exact ⟨vs', vs'[i], sq', by simp [hl]⟩
  · exact ⟨vs', sq', by rw [dq'.len]; exact hi⟩
  · obtain ⟨rfl, y⟩ := y
    obtain ⟨v', e1, e2⟩ := dq'.get hd
    have := y vs' sq'
    rw [e1] at this
    cases this
    exact ⟨F, New.pure e2⟩
def iT (te : TEA) : TIA := fun ε R => te ε fun rv ε1 => ∃ w ds, cnt ε1 rv = some w ∧ DT w ds ∧ R rv ds ε1
theorem ai_tup {tg l : Expr} {te : TEA} (h : AE X l te) : AI X tg l (iT te) := by
  obtain ⟨_, p, q⟩ := h.ex
  refine ⟨_, pi_tup p, fun E F φ ε σ H τ R RH S h k => ?_⟩
  refine q E F φ ε σ H τ _ _ S h fun rv v F1 φ1 ε1 H1 S1 ok h1 => ?_
  obtain ⟨w, ds, c, dl, h1⟩ := h1
  obtain ⟨A, r, _, _⟩ := S1.view ok c
  obtain ⟨a, vs, rfl, sq, dq⟩ := dl.ok S1.sub r
  refine ⟨a, rfl, ⟨vs, sq⟩, k rv (.ref a) w ds (Itt X.K a) F1 φ1 ε1 H1 S1 ok c ⟨fun i F H hi s g => ?_, fun i F H hi s g => ?_, fun i d F H x H' hd s g y => ?_⟩ h1⟩
  all_goals
    obtain ⟨A', r'⟩ := g
    obtain ⟨a', vs', e, sq', dq'⟩ := dl.ok s r'
    cases e
  · have hl : i < vs'.length := by rw [dq'.len]; exact hi
    exact ⟨vs', vs'[i], sq', by simp [hl]⟩
  · exact ⟨vs', sq', by rw [dq'.len]; exact hi⟩
  · obtain ⟨rfl, y⟩ := y
    obtain ⟨v', e1, e2⟩ := dq'.get hd
    have := y vs' sq'
    rw [e1] at this
    cases this
    exact ⟨F, New.pure e2⟩
/-- lo, lo + 1, .. -/
def rngD (lo : Int) (n : Nat) : List PyData := (List.range n).map fun (i : Nat) => PyData.int (lo + (i : Int))
theorem rngD_get {lo : Int} {n i : Nat} {d : PyData} (h : (rngD lo n)[i]? = some d) : i < n ∧ d = .int (lo + (i : Int)) := by
  unfold rngD at h
  rw [List.getElem?_map] at h
  obtain ⟨hi, e⟩ : ∃ hi : i < n, d = .int (lo + (i : Int)) := by
    by_cases hi : i < n
    · rw [List.getElem?_range hi] at h
      exact ⟨hi, (Option.some.inj h).symm⟩
    · rw [List.getElem?_eq_none (by simpa using hi)] at h
      cases h
  exact ⟨hi, e⟩
theorem rngD_len (lo : Int) (n : Nat) : (rngD lo n).length = n := by simp [rngD]
theorem it_range {K : PySem.W.Frag} (lo : Int) (n : Nat) {G : Hp → Hp → Prop} : DataIt K (Itr lo n) (rngD lo n) G :=
  ⟨fun i F H hi _ _ => by rw [rngD_len] at hi; exact hi, fun i F H hi _ _ => by rw [rngD_len] at hi; exact hi, fun i d F H x H' hd _ _ y => by
    obtain ⟨rfl, rfl⟩ := y
    obtain ⟨_, rfl⟩ := rngD_get hd
    exact ⟨F, New.pure (by rw [dq_int])⟩⟩
def iR1 (t : TAA) : TIA := fun ε R => t ε fun xs ε1 => ∃ j : Int, xs = [.v (.d (.int j))] ∧ -(2 ^ 62) ≤ j ∧ j < 2 ^ 62 ∧ R (.v (.d .none)) (rngD 0 j.toNat) ε1
theorem ai_range1 {tg a : Expr} {t : TAA} {p : Pos} (hg : Gl X "range") (hm : X.mg "range" = none) (h : AA X [a] t) (hs : starEach [a] X.env = [(false, eval a X.env)] := by rfl) : AI X tg (.Call (.Name "range" p) [a] [] pos) (iR1 t) := by
  obtain ⟨_, pa, qa⟩ := h.ex
  refine ⟨_, pi_range1 hg hm pa hs, fun E F φ ε σ H τ R RH S h k => ?_⟩
  refine qa E F φ ε σ H τ _ _ S h fun xs vs F1 φ1 ε1 H1 S1 ok h1 => ?_
  obtain ⟨j, rfl, hj1, hj2, h1⟩ := h1
  obtain ⟨e, l⟩ := evTs_v (ws := [.d (.int j)]) (τ := τ) ok
  have ct := S1.views ok (ws := [.d (.int j)]) rfl
  match vs, l, ct with
  | [v], _, ⟨⟨A, r⟩, _⟩ =>
    rw [rep_d, dq_int] at r
    obtain ⟨φ2, S2⟩ := (Sta.under S1).pushD (x := .none) (v := .non) (by rw [dq_none])
    exact ⟨j, by rw [r.1], hj1, hj2, k (.v (.d .none)) .non (.d .none) _ _ F1 φ2 ε1 H1 S2 True.intro rfl (it_range 0 _) h1⟩
def iR2 (t : TAA) : TIA := fun ε R => t ε fun xs ε1 => ∃ i j : Int, xs = [.v (.d (.int i)), .v (.d (.int j))] ∧ (-(2 ^ 62) ≤ i ∧ i < 2 ^ 62 ∧ -(2 ^ 62) ≤ j ∧ j < 2 ^ 62) ∧ R (.v (.d .none)) (rngD i (j - i).toNat) ε1
theorem ai_range2 {tg a b : Expr} {t : TAA} {p : Pos} (hg : Gl X "range") (hm : X.mg "range" = none) (h : AA X [a, b] t) (hs : starEach [a, b] X.env = [(false, eval a X.env), (false, eval b X.env)] := by rfl) (hs2 : starEach [b] X.env = [(false, eval b X.env)] := by rfl) : AI X tg (.Call (.Name "range" p) [a, b] [] pos) (iR2 t) := by
  obtain ⟨_, pa, qa⟩ := h.ex
  refine ⟨_, pi_range2 hg hm pa hs hs2, fun E F φ ε σ H τ R RH S h k => ?_⟩
  refine qa E F φ ε σ H τ _ _ S h fun xs vs F1 φ1 ε1 H1 S1 ok h1 => ?_
  obtain ⟨i, j, rfl, hb, h1⟩ := h1
  obtain ⟨e, l⟩ := evTs_v (ws := [.d (.int i), .d (.int j)]) (τ := τ) ok
  have ct := S1.views ok (ws := [.d (.int i), .d (.int j)]) rfl
  match vs, l, ct with
  | [v, u], _, ⟨⟨A, r⟩, ⟨B, r2⟩, _⟩ =>
    rw [rep_d, dq_int] at r r2
    obtain ⟨φ2, S2⟩ := (Sta.under S1).pushD (x := .none) (v := .non) (by rw [dq_none])
    exact ⟨i, j, by rw [r.1, r2.1], hb, k (.v (.d .none)) .non (.d .none) _ _ F1 φ2 ε1 H1 S2 True.intro rfl (it_range i _) h1⟩
/-- enumerate(list) -/
def enumD (ds : List PyData) : List PyData := (ds.zipIdx).map fun q => .tuple [.int (q.2 : Int), q.1]
theorem enumD_get {ds : List PyData} {i : Nat} {d : PyData} (h : (enumD ds)[i]? = some d) : ∃ x, ds[i]? = some x ∧ d = .tuple [.int (i : Int), x] := by
  unfold enumD at h
  rw [List.getElem?_map, List.getElem?_zipIdx] at h
  cases e : ds[i]? with
  | none => rw [e] at h; cases h
  | some x =>
    rw [e] at h
    have h := Option.some.inj h
    exact ⟨x, rfl, by rw [← h]; simp⟩
theorem enumD_len (ds : List PyData) : (enumD ds).length = ds.length := by simp [enumD]
def iE (t : TAA) : TIA := fun ε R => t ε fun xs ε1 => ∃ rv w ds, xs = [rv] ∧ cnt ε1 rv = some w ∧ DL w ds ∧ R rv (enumD ds) ε1
theorem ai_enum {e : Expr} {t : TAA} {p tpos : Pos} {elts : List Expr} {kk : Nat} (hg : Gl X "enumerate") (hm : X.mg "enumerate" = none) (h : AA X [e] t) (hs : starEach [e] X.env = [(false, eval e X.env)] := by rfl) : AI X (.Tuple elts kk tpos) (.Call (.Name "enumerate" p) [e] [] pos) (iE t) := by
  obtain ⟨_, pa, qa⟩ := h.ex
  refine ⟨_, pi_enum hg hm pa hs, fun E F φ ε σ H τ R RH S h k => ?_⟩
  refine qa E F φ ε σ H τ _ _ S h fun xs vs F1 φ1 ε1 H1 S1 ok h1 => ?_
  obtain ⟨rv, w, ds, rfl, c, dl, h1⟩ := h1
  match vs, ok with
  | [v], ⟨ok, _⟩ =>
    have S1 : Sta X.K E F1 φ1 ε1 σ H1 (evT rv v τ) := S1
    obtain ⟨A, r, _, _⟩ := S1.view ok c
    obtain ⟨a, us, rfl, sq, dq⟩ := dl.ok S1.sub r
    refine ⟨a, us, rfl, sq, k rv (.ref a) w _ (Ite X.K a) F1 φ1 ε1 H1 S1 ok c ⟨fun i F H hi s g => ?_, fun i F H hi s g => ?_, fun i d F H x H' hd s g y => ?_⟩ h1⟩
    all_goals
      obtain ⟨A', r'⟩ := g
      obtain ⟨a', vs', e, sq', dq'⟩ := dl.ok s r'
      cases e
    · have hl : i < vs'.length := by rw [dq'.len]; rw [enumD_len] at hi; exact hi
      exact ⟨vs', vs'[i], sq', by simp [hl]⟩
    · exact ⟨vs', sq', by rw [dq'.len]; rw [enumD_len] at hi; exact hi⟩
    · obtain ⟨T, z, rfl, hT, rfl, y⟩ := y
      obtain ⟨q, hq, rfl⟩ := enumD_get hd
      obtain ⟨v', e1, e2⟩ := dq'.get hq
      have := y vs' sq'
      rw [e1] at this
      cases this
      exact ⟨_, New.tup hT (by
        rw [dqs_cons]
        refine ⟨_, _, rfl, by rw [dq_int], ?_⟩
        rw [dqs_cons]
        exact ⟨_, _, rfl, e2, by rw [dqs_nil]⟩)⟩

/-! ### for -/
def tFor (bp : List Nat) (ti : TIA) (g : TGA) (tb : TSA) : TSA := fun D ε => ti ε fun rv ds ε1 => ∃ (w : W) (Pv : Nat → Env → Prop), cnt ε1 rv = some w ∧ (∀ i, rv = .sl i → i ∈ bp) ∧ Pv 0 ε1 ∧ (∀ i ε, i ≤ ds.length → Pv i ε → cnt ε rv = some w) ∧
  (∀ i d ε, ds[i]? = some d → Pv i ε → g (.d d) ε fun ε2 => tb { nx := Pv (i + 1), ct := Pv (i + 1), bk := fun ε => ∃ ε', bck rv ε = some ε' ∧ D.nx ε', rt := fun r ε => ∃ ε', bck rv ε = some ε' ∧ D.rt r ε' } ε2) ∧
  (∀ ε, Pv ds.length ε → ∃ ε', bck rv ε = some ε' ∧ D.nx ε')
/-- a return from within: what the loop walks goes away -/
theorem rt_back {K : PySem.W.Frag} {E : Ent} {τ : List (W × V)} {rv : EV} {v : V} {D : EndsA} {DH : Ends} (f : Fits K E τ D DH) {rv' : EV} {v' : V} {F φ ε σ H} (S : Sta K E F φ ε σ H (evT rv' v' (evT rv v τ))) (ok' : evOk rv' σ v') (ok : evOk rv σ v)
    (h : ∃ ε', bck rv ε = some ε' ∧ D.rt rv' ε') : DH.rt v' H := by
  obtain ⟨ε', b, h⟩ := h
  cases rv' with
  | sl i =>
    obtain ⟨φ', S'⟩ := Sta.back (rv := rv) (v := v) S ok b
    exact f.rt (.sl i) v' F φ' ε' σ H S' ok' h
  | v w =>
    cases rv with
    | sl i =>
      cases b
      exact f.rt (.v w) v' F φ ε σ H S ok' h
    | v w2 =>
      obtain ⟨φ1, S1⟩ := Sta.swap (a := (w2, v)) (b := (w, v')) S
      obtain ⟨φ2, S2⟩ := Sta.back (rv := .v w2) (τ := τ ++ [(w, v')]) S1 ok b
      exact f.rt (.v w) v' F φ2 ε' σ H S2 ok' h
    | fl i p u w2 =>
      obtain ⟨φ1, S1⟩ := Sta.swap (a := (w2, v)) (b := (w, v')) S
      obtain ⟨φ2, S2⟩ := Sta.back (rv := .fl i p u w2) (τ := τ ++ [(w, v')]) S1 ok b
      exact f.rt (.v w) v' F φ2 ε' σ H S2 ok' h
  | fl j q u' w =>
    cases rv with
    | sl i =>
      cases b
      exact f.rt (.fl j q u' w) v' F φ ε σ H S ok' h
    | v w2 =>
      obtain ⟨φ1, S1⟩ := Sta.swap (a := (w2, v)) (b := (w, v')) S
      obtain ⟨φ2, S2⟩ := Sta.back (rv := .v w2) (τ := τ ++ [(w, v')]) S1 ok b
      exact f.rt (.fl j q u' w) v' F φ2 ε' σ H S2 ok' h
    | fl i p u w2 =>
      obtain ⟨φ1, S1⟩ := Sta.swap (a := (w2, v)) (b := (w, v')) S
      obtain ⟨φ2, S2⟩ := Sta.back (rv := .fl i p u w2) (τ := τ ++ [(w, v')]) S1 ok b
      exact f.rt (.fl j q u' w) v' F φ2 ε' σ H S2 ok' h
theorem as_for {ts : List Nat} {tg iter : Expr} {body : List Stmt} {ti : TIA} {g : TGA} {tb : TSA} (hi : AI X tg iter ti) (hg : AG X bp ts tg g) (hb : ASs X bp body tb) (hc : X.calm = true := by rfl) (hp : PassesOwn (model X.prog X.w) X.A X.env X.xe := by exact PassesOwn.never)
    (hs : ∀ x, foldedSetIterable iter X.env x = pure x := by intro _; rfl) : AS X bp (.For tg iter body [] pos) (tFor bp ti g tb) := by
  obtain ⟨_, pi, qi⟩ := hi.ex
  obtain ⟨_, pg, qg⟩ := hg.ex
  obtain ⟨_, pb, qb⟩ := hb.ex
  refine ⟨_, ps_for hp hc pi pg pb hs, fun E F φ ε σ H τ D DH he S h f => ?_⟩
  refine qi E F φ ε σ H τ _ _ S h fun rv v w0 ds J F1 φ1 ε1 H1 S1 ok c0 it h1 => ?_
  obtain ⟨w, Pv, c, hbp, p0, keep, turn, fin⟩ := h1
  rw [c0] at c
  cases c
  -- the source's value stays in its slot
  have okk : ∀ {F φ ε σ' H}, Sta X.K E F φ ε σ' H (evT rv v τ) → evOk rv σ' v := fun {F φ ε σ' H} S' => by
    cases rv with
    | v w => exact True.intro
    | fl i p u w => exact ok
    | sl i =>
      have hi := hbp i rfl
      have e1 := S1.fix i (he ▸ hi)
      have e2 := S'.fix i (he ▸ hi)
      show σ'[i]? = some (some v)
      rw [e2, ← e1]
      exact ok
  refine ⟨fun i m σ H => m = ds.length - i ∧ i ≤ ds.length ∧ ∃ F φ ε, Sta X.K E F φ ε σ H (evT rv v τ) ∧ Pv i ε, ⟨ds.length, by simp, Nat.zero_le _, F1, φ1, ε1, S1, p0⟩, ?_⟩
  rintro i m σ2 H2 ⟨rfl, hi, F2, φ2, ε2, S2, p2⟩
  obtain ⟨A, r, _, _⟩ := S2.view (okk S2) (keep i ε2 hi p2)
  by_cases hlt : i < ds.length
  · refine .inr ⟨it.go i F2 H2 hlt S2.sub ⟨A, r⟩, fun σ H => ∃ F φ ε, Sta X.K E F φ ε σ H (evT rv v τ) ∧ Pv (i + 1) ε, fun σ' H' ⟨F3, φ3, ε3, S3, p3⟩ => ⟨ds.length - (i + 1), by omega, rfl, hlt, F3, φ3, ε3, S3, p3⟩, fun x H3 y => ?_⟩
    obtain ⟨F3, n⟩ := it.yld i ds[i] F2 H2 x H3 (by simp [hlt]) S2.sub ⟨A, r⟩ y
    obtain ⟨φ3, S3⟩ := S2.new n
    refine qg E F3 φ3 ε2 σ2 H3 _ _ x _ _ he S3 (turn i ds[i] ε2 (by simp [hlt]) p2) fun F4 φ4 ε4 σ4 H4 S4 _ _ _ h4 => ?_
    refine qb E F4 φ4 ε4 σ4 H4 _ _ _ he S4 h4 ⟨fun F φ ε σ H S h => ⟨F, φ, ε, S, h⟩, fun rv' v' F φ ε σ H S ok' h => rt_back f S ok' ?_ h, fun F φ ε σ H S h => ?_, fun F φ ε σ H S h => ⟨F, φ, ε, S, h⟩⟩
    · cases rv' with
      | sl _ => exact okk S
      | v z => exact okk (Sta.drop (r := [(z, v')]) S)
      | fl _ _ _ z => exact okk (Sta.drop (r := [(z, v')]) S)
    · obtain ⟨ε', b, h⟩ := h
      obtain ⟨φ', S'⟩ := S.back (okk S) b
      exact f.nx F φ' ε' σ H S' h
  · have e : i = ds.length := by omega
    subst e
    obtain ⟨ε', b, h⟩ := fin ε2 p2
    obtain ⟨φ', S'⟩ := S2.back (okk S2) b
    exact .inl ⟨it.stop _ F2 H2 (Nat.le_refl _) S2.sub ⟨A, r⟩, f.nx F2 φ' ε' σ2 H2 S' h⟩

/-! ### while -/
def tWhile (c : TTA) (tb : TSA) : TSA := fun D ε => ∃ Pv : Nat → Env → Prop, (∃ m, Pv m ε) ∧ ∀ m ε, Pv m ε → c ε fun b ε1 => if b = true then tb { D with nx := fun ε' => ∃ m', m' < m ∧ Pv m' ε', ct := fun ε' => ∃ m', m' < m ∧ Pv m' ε', bk := D.nx } ε1 else D.nx ε1
theorem as_while {c : Expr} {body : List Stmt} {tc : TTA} {tb : TSA} (hc : AT X c tc) (hb : ASs X bp body tb) (hp : PassesOwn (model X.prog X.w) X.A X.env X.xe := by exact PassesOwn.never) : AS X bp (.While c body [] pos) (tWhile tc tb) := by
  obtain ⟨_, pc, qc⟩ := hc.ex
  obtain ⟨_, pb, qb⟩ := hb.ex
  refine ⟨_, ps_while hp pc pb, fun E F φ ε σ H τ D DH he S h f => ?_⟩
  obtain ⟨Pv, ⟨m0, p0⟩, turn⟩ := h
  refine ⟨fun m σ H => ∃ F φ ε, Sta X.K E F φ ε σ H τ ∧ Pv m ε, ⟨m0, F, φ, ε, S, p0⟩, ?_⟩
  rintro m σ2 H2 ⟨F2, φ2, ε2, S2, p2⟩
  refine qc E F2 φ2 ε2 σ2 H2 τ _ _ S2 (turn m ε2 p2) fun b F3 φ3 ε3 H3 S3 h3 => ?_
  cases b with
  | true =>
    refine iteT ⟨fun σ H => ∃ F φ ε, Sta X.K E F φ ε σ H τ ∧ ∃ m', m' < m ∧ Pv m' ε, fun σ' H' ⟨F, φ, ε, S, m', hm, p⟩ => ⟨m', hm, F, φ, ε, S, p⟩, ?_⟩
    exact qb E F3 φ3 ε3 σ2 H3 τ _ _ he S3 h3 ⟨fun F φ ε σ H S h => ⟨F, φ, ε, S, h⟩, f.rt, fun F φ ε σ H S h => f.nx F φ ε σ H S h, fun F φ ε σ H S h => ⟨F, φ, ε, S, h⟩⟩
  | false => exact iteF (f.nx F3 φ3 ε3 σ2 H3 S3 h3)
end

/-! ## a def by its body -/
def startW (N : List Str) (ws : List W) : Env := ws.map some ++ List.replicate (N.length - ws.length) none
/-- the arguments' contents at the end: data as they were, own things as they stand -/
def finW : List W → Nat → Env → Option (List W)
  | [], _, _ => some []
  | w :: ws, i, ε => (match w with
    | .d x => some (W.d x)
    | .v x => some (.v x)
    | _ => (ε[i]?).join).bind fun w' => (finW ws (i + 1) ε).map fun r => w' :: r
/-- the own arguments are among the slots that are not stored to -/
def ownIn (bp : List Nat) : List W → Nat → Prop
  | [], _ => True
  | w :: ws, i => (match w with
    | .d _ => True
    | .v _ => True
    | _ => i ∈ bp) ∧ ownIn bp ws (i + 1)
def endsW (bp : List Nat) (ws : List W) (Q : W → List W → Prop) : EndsA where
  nx := fun ε => ∃ ws', ownIn bp ws 0 ∧ finW ws 0 ε = some ws' ∧ Q (.d .none) ws'
  rt := fun rv ε => ∃ r ε1 ws', Tak rv ε r ε1 ∧ ownIn bp ws 0 ∧ finW ws 0 ε1 = some ws' ∧ Q r ws'
section
variable {K : PySem.W.Frag} {E : Ent} {F F' H H' : Hp} {φ φ' : Addr → Option Nat} {ε ε' : Env} {σ σ' : L2.St} {τ τ' : List (W × V)} {rv : EV} {v : V} {w : W}
theorem Sta.fin (S : Sta K E F φ ε σ H τ) : ∀ {ws ws' : List W} {vs : List V} {A : List Addr} {n : Nat}, Reps K E.F0 E.H0 ws vs A → (∀ i x, vs[i]? = some x → E.st0[n + i]? = some (some x)) → ownIn E.bp ws n → finW ws n ε = some ws' →
    ∃ A', Reps K F H ws' vs A' ∧ A'.Nodup ∧ ∀ a ∈ A', ∃ i, φ a = some i ∧ n ≤ i ∧ i < ε.length
  | [], ws', vs, A, n, r, _, _, h => by
    have h : some [] = some ws' := h
    cases h
    rw [reps_nil] at r
    exact ⟨[], by rw [reps_nil]; exact ⟨r.1, rfl⟩, List.nodup_nil, fun a h => nomatch h⟩
  | w :: ws, ws', vs, A, n, r, hs, ho, h => by
    rw [reps_cons] at r
    obtain ⟨v, vr, B, C, rfl, rfl, r1, r2⟩ := r
    have hv := hs 0 v rfl
    -- the head's content
    have head : ∃ w' rs, finW ws (n + 1) ε = some rs ∧ ws' = w' :: rs ∧ ∃ A1, Rep K F H w' v A1 ∧ A1.Nodup ∧ ∀ a ∈ A1, φ a = some n ∧ n < ε.length := by
      unfold finW at h
      cases hf : finW ws (n + 1) ε with
      | none =>
        rw [hf] at h
        cases w with
        | d x => cases h
        | v x => cases h
        | lst x => simp only [Option.map_none, Option.bind] at h; split at h <;> cases h
        | dk x => simp only [Option.map_none, Option.bind] at h; split at h <;> cases h
        | ins c x => simp only [Option.map_none, Option.bind] at h; split at h <;> cases h
        | tup x => simp only [Option.map_none, Option.bind] at h; split at h <;> cases h
      | some rs =>
        rw [hf] at h
        have own : ∀ z, (ε[n]?).join = some z → n ∈ E.bp → ∃ A1, Rep K F H z v A1 ∧ A1.Nodup ∧ ∀ a ∈ A1, φ a = some n ∧ n < ε.length := fun z hz hb => by
          obtain ⟨u, A1, e, q1, q2, q3⟩ := S.slot n z (join_some hz)
          rw [S.fix n hb, show n = n + 0 from rfl, hv] at e
          cases e
          obtain ⟨hl, _⟩ := List.getElem?_eq_some_iff.mp (join_some hz)
          exact ⟨A1, q1, q2, fun a ha => ⟨q3 a ha, hl⟩⟩
        have fin : ∀ z, (ε[n]?).join = some z ∨ z = w → True := fun _ _ => True.intro
        cases w with
        | d x =>
          have h : some (W.d x :: rs) = some ws' := h
          cases h
          rw [rep_d] at r1
          exact ⟨.d x, rs, rfl, rfl, [], by rw [rep_d]; exact ⟨r1.1.mono S.ext, rfl⟩, List.nodup_nil, fun a h => nomatch h⟩
        | v x =>
          have h : some (W.v x :: rs) = some ws' := h
          cases h
          rw [rep_v] at r1
          exact ⟨.v x, rs, rfl, rfl, [], by rw [rep_v]; exact ⟨r1.1, rfl⟩, List.nodup_nil, fun a h => nomatch h⟩
        | lst x =>
          cases e : (ε[n]?).join with
          | none => simp only [e] at h; cases h
          | some z =>
            simp only [e] at h
            cases h
            obtain ⟨A1, q⟩ := own z e ho.1
            exact ⟨z, rs, rfl, rfl, A1, q⟩
        | dk x =>
          cases e : (ε[n]?).join with
          | none => simp only [e] at h; cases h
          | some z =>
            simp only [e] at h
            cases h
            obtain ⟨A1, q⟩ := own z e ho.1
            exact ⟨z, rs, rfl, rfl, A1, q⟩
        | ins c x =>
          cases e : (ε[n]?).join with
          | none => simp only [e] at h; cases h
          | some z =>
            simp only [e] at h
            cases h
            obtain ⟨A1, q⟩ := own z e ho.1
            exact ⟨z, rs, rfl, rfl, A1, q⟩
        | tup x =>
          cases e : (ε[n]?).join with
          | none => simp only [e] at h; cases h
          | some z =>
            simp only [e] at h
            cases h
            obtain ⟨A1, q⟩ := own z e ho.1
            exact ⟨z, rs, rfl, rfl, A1, q⟩
    obtain ⟨w', rs, hf, rfl, A1, q1, q2, q3⟩ := head
    obtain ⟨A2, t1, t2, t3⟩ := Sta.fin S (n := n + 1) r2 (fun i x e => by
      have := hs (i + 1) x (by simpa using e)
      rw [show n + 1 + i = n + (i + 1) by omega]
      exact this) ho.2 hf
    refine ⟨A1 ++ A2, ?_, List.nodup_append.mpr ⟨q2, t2, fun a ha b hb e => ?_⟩, fun a ha => ?_⟩
    · rw [reps_cons]
      exact ⟨v, vr, A1, A2, rfl, rfl, q1, t1⟩
    · subst e
      obtain ⟨i, z1, z2, _⟩ := t3 a hb
      rw [(q3 a ha).1] at z1
      cases z1
      omega
    · rcases List.mem_append.mp ha with z | z
      · exact ⟨n, (q3 a z).1, Nat.le_refl _, (q3 a z).2⟩
      · obtain ⟨i, z1, z2, z3⟩ := t3 a z
        exact ⟨i, z1, by omega, z3⟩
theorem Sta.init {N : List Str} {bp : List Nat} {F0 H0 : Hp} {ws : List W} {vs : List V} {A : List Addr} (hN : ws.length ≤ N.length) (sub : Same F0 H0) (r : Reps K F0 H0 ws vs A) (nd : A.Nodup) (hA : ∀ a ∈ A, F0 a = none ∧ H0 a ≠ none) :
    ∃ φ, Sta K { F0 := F0, H0 := H0, M := (· ∈ A), st0 := start N vs, bp := bp } F0 φ (startW N ws) (start N vs) H0 [] := by
  have hl := r.len
  obtain ⟨ψ, h1, h2⟩ := r.tags 0 nd
  refine ⟨ψ, Same.refl _, fun b h => .inl h, sub, fun b o h _ => h, fun b h => h, fun b i h => ?_, ?_, fun i _ => rfl, fun i w h => ?_, fun j w v h => ?_⟩
  · obtain ⟨q, _⟩ := h1 b i h
    exact ⟨(hA b q).1, (hA b q).2, .inl q⟩
  · unfold startW L2.start
    simp only [List.length_append, List.length_map, List.length_replicate]
    omega
  · unfold startW at h
    by_cases hi : i < ws.length
    · rw [List.getElem?_append_left (by simpa using hi), List.getElem?_map] at h
      cases e : ws[i]? with
      | none => rw [e] at h; cases h
      | some w' =>
        rw [e] at h
        cases h
        have hv : i < vs.length := by omega
        have ez : (ws.zip vs)[i]? = some (w, vs[i]) := by
          rw [List.getElem?_zip_eq_some]
          exact ⟨e, by simp [hv]⟩
        obtain ⟨B, q1, q2, q3⟩ := h2 i w vs[i] ez
        refine ⟨vs[i], B, ?_, q1, q2, fun a ha => by have := (q3 a ha).1; simpa using this⟩
        unfold L2.start
        rw [List.getElem?_append_left (by simpa using hv), List.getElem?_map]
        simp [hv]
    · rw [List.getElem?_append_right (by simpa using hi), List.getElem?_replicate] at h
      split at h <;> cases h
  · simp at h
end
section
variable {P : Program} {w : World} {K : PySem.W.Frag} {mg : Str → Option Value} {base : Heap}
/-- what the body's end gives the caller -/
theorem fits_end {bp : List Nat} {N : List Str} {F0 H0 : Hp} {ws : List W} {vs : List V} {A : List Addr} {Q : VK} (r : Reps K F0 H0 ws vs A) :
    Fits K { F0 := F0, H0 := H0, M := (· ∈ A), st0 := start N vs, bp := bp } [] (endsW bp ws fun r ws' => ∀ v F' H' Ar A', Same F0 F' → (∀ b, F' b ≠ none → F0 b ≠ none ∨ b ∈ A ∨ H0 b = none) → Same F' H' → (∀ b, H' b = none → H0 b = none) → (∀ b o, H0 b = some o → b ∉ A → H' b = some o) →
      Rep K F' H' r v Ar → Reps K F' H' ws' vs A' → (Ar ++ A').Nodup → (∀ b ∈ Ar ++ A', F' b = none ∧ H' b ≠ none ∧ (b ∈ A ∨ H0 b = none)) → Q v H') { nx := fun _ H' => Q .non H', rt := Q } := by
  have key : ∀ {rr : W} {ws' : List W} {v : V} {F φ ε σ H}, Sta K { F0 := F0, H0 := H0, M := (· ∈ A), st0 := start N vs, bp := bp } F φ ε σ H [(rr, v)] → ownIn bp ws 0 → finW ws 0 ε = some ws' →
      (∀ v F' H' Ar A', Same F0 F' → (∀ b, F' b ≠ none → F0 b ≠ none ∨ b ∈ A ∨ H0 b = none) → Same F' H' → (∀ b, H' b = none → H0 b = none) → (∀ b o, H0 b = some o → b ∉ A → H' b = some o) →
      Rep K F' H' rr v Ar → Reps K F' H' ws' vs A' → (Ar ++ A').Nodup → (∀ b ∈ Ar ++ A', F' b = none ∧ H' b ≠ none ∧ (b ∈ A ∨ H0 b = none)) → Q v H') → Q v H := fun {rr ws' v F φ ε σ H} S ho hf h => by
    obtain ⟨A', t1, t2, t3⟩ := Sta.fin S (n := 0) r (fun i x e => by
      show (start N vs)[0 + i]? = some (some x)
      unfold L2.start
      obtain ⟨hi, _⟩ := List.getElem?_eq_some_iff.mp e
      rw [Nat.zero_add, List.getElem?_append_left (by simpa using hi), List.getElem?_map, e]
      rfl) ho hf
    obtain ⟨Ar, q1, q2, q3⟩ := S.tmp 0 rr v rfl
    refine h v F H Ar A' S.ext (fun b hb => ?_) S.sub S.pre S.old q1 t1 (List.nodup_append.mpr ⟨q2, t2, fun a ha b hb e => ?_⟩) fun b hb => ?_
    · rcases S.fnew b hb with z | z | z
      · exact .inl z
      · exact .inr (.inr z)
      · exact .inr (.inl z)
    · subst e
      obtain ⟨i, z1, _, z3⟩ := t3 a hb
      rw [q3 a ha] at z1
      cases z1
      omega
    · have own : ∃ i, φ b = some i := by
        rcases List.mem_append.mp hb with z | z
        · exact ⟨_, q3 b z⟩
        · obtain ⟨i, z1, _⟩ := t3 b z
          exact ⟨i, z1⟩
      obtain ⟨i, hi⟩ := own
      exact S.own b i hi
  refine ⟨fun F φ ε σ H S h => ?_, fun rv v F φ ε σ H S ok h => ?_, fun F φ ε σ H S h => h.elim, fun F φ ε σ H S h => h.elim⟩
  · obtain ⟨ws', ho, hf, h⟩ := h
    obtain ⟨φ', S'⟩ := S.pushD (x := .none) (v := .non) (by rw [dq_none])
    exact key S' ho hf h
  · obtain ⟨rr, ε1, ws', tk, ho, hf, h⟩ := h
    obtain ⟨F2, φ2, S2⟩ := S.take ok tk
    exact key S2 ho hf h
theorem fnA {x qual : Str} {st : Stmt} {f : Addr} {fd : FuncData} {N ps : List Str} {k : Nat} {sp : SpW} (F : Fun K x qual st f fd) (S : FnScope N ps (defScope st)) (bp : List Nat) (len : ∀ ws Q, sp ws Q → ws.length = ps.length)
    (hbody : ∀ (cdv : Value) (A : Around) (outer : List PySem.Env) (s : Shared) (H : Hp) (E : XK), Room k (A.deeper (envOfC qual (defScope st) s.heap.objs.size f cdv)) →
      ∃ t, ASs (cxOf CX0 P w K mg base N qual (defScope st) f cdv A outer s H E).nox bp (defBody st) t ∧ ∀ ws Q, sp ws Q → t (endsW bp ws Q) (startW N ws)) : FnOk P w K mg base CX0 (k + 1) f fd ps (spA K sp) := by
  refine F.ok S (fun vs H Q E h => ?_) fun cdv A outer s H vs Q E hr h => ?_
  · obtain ⟨F0, ws, A, _, r, _, _, h⟩ := h
    rw [r.len]
    exact len _ _ h
  · obtain ⟨F0, ws, Ad, sub, r, nd, hA, h⟩ := h
    obtain ⟨t, ht, hb⟩ := hbody cdv A outer s H E hr
    obtain ⟨tH, p, q⟩ := ht.ex
    have hN : ws.length ≤ N.length := by
      rw [len _ _ h]
      have e := congrArg List.length S.pre
      rw [List.length_take] at e
      omega
    obtain ⟨φ, S0⟩ := Sta.init (N := N) (bp := bp) hN sub r nd hA
    exact ⟨tH, p, q _ F0 φ _ _ H [] _ _ rfl S0 (hb ws _ h) (fits_end r)⟩
end
end Ab

namespace Ab
open PySem PySem.Spec PyProof.Rows L2

/-! ## operators -/
inductive IntR (C : Int → Int → Prop) (g : Int → Int → Int) : W → W → W → Prop
  | mk {i j : Int} (h : C i j) : IntR C g (.d (.int i)) (.d (.int j)) (.d (.int (g i j)))
inductive CmpR (g : Int → Int → Bool) : W → W → W → Prop
  | mk {i j : Int} : CmpR g (.d (.int i)) (.d (.int j)) (.d (.bool (g i j)))
section
variable {X : Cx}
theorem oa_int {f : Value → Value → Sem Value} {C : Int → Int → Prop} {g : Int → Int → Int} (ho : OpR X f (rI C fun i j => .int (g i j))) : OpA X f (IntR C g) :=
  ⟨_, ho, fun F H wx wy vx vy A B res QH s rx ry hr k => by
    cases hr with
    | mk h =>
      rw [rep_d, dq_int] at rx ry
      exact ⟨_, _, rx.1, ry.1, h, k _ F H (New.pure (by rw [dq_int]))⟩⟩
theorem oa_int0 {f : Value → Value → Sem Value} {g : Int → Int → Int} (ho : OpR X f (rI0 fun i j => .int (g i j))) : OpA X f (IntR (fun _ _ => True) g) :=
  ⟨_, ho, fun F H wx wy vx vy A B res QH s rx ry hr k => by
    cases hr with
    | mk h =>
      rw [rep_d, dq_int] at rx ry
      exact ⟨_, _, rx.1, ry.1, k _ F H (New.pure (by rw [dq_int]))⟩⟩
theorem oa_cmp {f : Value → Value → Sem Value} {g : Int → Int → Bool} (ho : OpR X f (rI0 fun i j => .bl (g i j))) : OpA X f (CmpR g) :=
  ⟨_, ho, fun F H wx wy vx vy A B res QH s rx ry hr k => by
    cases hr with
    | mk =>
      rw [rep_d, dq_int] at rx ry
      exact ⟨_, _, rx.1, ry.1, k _ F H (New.pure (by rw [dq_bool]))⟩⟩
/-- ** of ints of any size, below 2 ^ 27 bits in all -/
def CPowW (i j : Int) : Prop := 0 ≤ j ∧ (Builtin.Int.intBits i : Int) * j ≤ 2 ^ 27
theorem op_powW : OpR X (binaryOp .Pow) (rI CPowW fun i j => .int (i ^ j.toNat)) := opI fun _ _ _ _ _ _ _ hc q => pow_int hc.1 hc.2 q
theorem oa_sub : OpA X (binaryOp .Sub) (IntR (fun _ _ => True) fun i j => i - j) := oa_int0 op_sub
theorem oa_mod : OpA X (binaryOp .Mod) (IntR (fun _ j => 0 < j) fun i j => i % j) := oa_int op_mod
theorem oa_fdiv : OpA X (binaryOp .FloorDiv) (IntR CDivW fun i j => i / j) := oa_int op_fdivW
theorem oa_pow : OpA X (binaryOp .Pow) (IntR CPowW fun i j => i ^ j.toNat) := oa_int op_powW
theorem oa_lt : OpA X (compareOp .Lt) (CmpR fun i j => decide (i < j)) := oa_cmp op_lt
theorem oa_le : OpA X (compareOp .LtE) (CmpR fun i j => decide (i ≤ j)) := oa_cmp op_le
theorem oa_gt : OpA X (compareOp .Gt) (CmpR fun i j => decide (j < i)) := oa_cmp op_gt
theorem oa_ge : OpA X (compareOp .GtE) (CmpR fun i j => decide (j ≤ i)) := oa_cmp op_ge
/-- + -/
def rCatS (K : PySem.W.Frag) : R2 := fun x y H Q => ∃ l b xs zs, x = .ref l ∧ y = .ref b ∧ SqL K H l xs ∧ SqL K H b zs ∧ xs.length + zs.length ≤ sizeLine ∧ ∀ p, H p = none → Q (.ref p) (upd H p (.lst (xs ++ zs)))
theorem op_catS : OpR X (binaryOp .Add) (rCatS X.K) := by
  intro pins s σ H x y v u Q I rx ry h
  obtain ⟨l, b, xs, zs, rfl, rfl, hx, hy, hz, q⟩ := h
  cases rx
  cases ry
  obtain ⟨its, r1, ⟨⟨cls, dd, data, sl⟩, n, ho, hc, _, hd⟩, _⟩ := I.list hx
  obtain ⟨its2, r2, ⟨⟨cls2, dd2, data2, sl2⟩, n2, ho2, hc2, _, hd2⟩, _⟩ := I.list hy
  simp only at hc hd hc2 hd2
  subst hc hd hc2 hd2
  have ea : its.toArray ++ its2.toArray = (its ++ its2).toArray := by simp
  refine concat_meets ⟨_, ho, rfl⟩ ⟨_, ho2, rfl⟩ noFill_list_add seq_list_add PySem.F.slot_list_add PySem.F.entry_list_add (PySem.F.args_list_add_2 _ _) (PyProof.Rows.list_addW l b its.toArray its2.toArray n n2 dd dd2 sl sl2 (by
    rw [List.size_toArray, List.size_toArray, ← r1.length, ← r2.length]; exact hz)) ⟨ho, ho2, ?_⟩
  rw [ea]
  exact ⟨.ref _, _, I.lnew (t' := s.toks) (r1.append r2) (by rw [List.length_append]; exact hz), rfl, q _ I.fresh⟩
inductive AddR : W → W → W → Prop
  | int {i j : Int} : AddR (.d (.int i)) (.d (.int j)) (.d (.int (i + j)))
  | str {x y : Str} (h : x.length + y.length ≤ sizeLine) : AddR (.d (.str x)) (.d (.str y)) (.d (.str (x ++ y)))
  | lst {wx wy : W} {xs ys : List PyData} (hx : DL wx xs) (hy : DL wy ys) (h : xs.length + ys.length ≤ sizeLine) : AddR wx wy (.lst ((xs ++ ys).map W.d))
theorem Dqs.append {K : PySem.W.Frag} {F : Hp} : ∀ {ds es : List PyData} {vs us : List V}, Dqs K F ds vs → Dqs K F es us → Dqs K F (ds ++ es) (vs ++ us)
  | [], es, vs, us, h, g => by rw [dqs_nil] at h; rw [h]; exact g
  | d :: ds, es, vs, us, h, g => by
    rw [dqs_cons] at h
    obtain ⟨v, r, rfl, p, q⟩ := h
    rw [List.cons_append, dqs_cons]
    exact ⟨v, r ++ us, rfl, p, Dqs.append q g⟩
theorem oa_add : OpA X (binaryOp .Add) AddR := by
  refine ⟨_, op_add.or (op_add_str.or op_catS), fun F H wx wy vx vy A B res QH s rx ry hr k => ?_⟩
  cases hr with
  | int =>
    rw [rep_d, dq_int] at rx ry
    exact .inl ⟨_, _, rx.1, ry.1, k _ F H (New.pure (by rw [dq_int]))⟩
  | str h =>
    rw [rep_d, dq_str] at rx ry
    exact .inr (.inl ⟨_, _, rx.1, ry.1, h, k _ F H (New.pure (by rw [dq_str]))⟩)
  | lst hx hy h =>
    obtain ⟨a, vs, rfl, q1, d1⟩ := hx.ok s rx
    obtain ⟨b, us, rfl, q2, d2⟩ := hy.ok s ry
    exact .inr (.inr ⟨a, b, vs, us, rfl, rfl, q1, q2, by rw [d1.len, d2.len]; exact h, fun p hp => k _ F _ (New.lst hp (d1.append d2))⟩)
/-- * -/
theorem lineBig0 : 16777216 ≤ sizeLine := by decide
def rRepS (K : PySem.W.Frag) : R2 := fun x y H Q => ∃ l k xs, x = .ref l ∧ y = .int k ∧ H l = some (.lst xs) ∧ -(2 ^ 63) ≤ k ∧ k < 2 ^ 63 ∧ xs.length * k.toNat ≤ sizeLine ∧ ∀ p, H p = none → Q (.ref p) (upd H p (.lst (List.replicate k.toNat xs).flatten))
/-- a text so often -/
def repStr (x : Str) (n : Int) : Str := if n < 1 then Str.empty else if (n == 1 || x.length == 0) = true then x else ⟨(List.replicate n.toNat x.cps).foldl (· ++ ·) #[]⟩
theorem rep_size0 (a : Array Nat) : ∀ (n : Nat) (b : Array Nat), ((List.replicate n a).foldl (· ++ ·) b).size = b.size + n * a.size
  | 0, b => by simp
  | n + 1, b => by
    rw [List.replicate_succ, List.foldl_cons, rep_size0 a n, Array.size_append, Nat.succ_mul]
    omega
theorem rep_size (a : Array Nat) (n : Nat) : ((List.replicate n a).foldl (· ++ ·) #[]).size = n * a.size := by
  rw [rep_size0]
  simp
theorem op_repS : OpR X (binaryOp .Mult) (fun x y H Q => ∃ i n, x = .str i ∧ y = .int n ∧ -1000000 ≤ n ∧ n ≤ 1000000 ∧ i.length ≤ 1000000 ∧ i.length * n.toNat ≤ 1000000 ∧ Q (.str (repStr i n)) H) := by
  intro pins s σ H x y v u Q I rx ry h
  obtain ⟨i, n, rfl, rfl, h1, h2, h3, h4, q⟩ := h
  obtain ⟨t, rfl⟩ := rx
  obtain ⟨t', rfl⟩ := ry
  refine PySem.P.mul_str ?_ ?_ ?_ ?_
  · rw [Bool.or_eq_false_iff, decide_eq_false_iff_not, decide_eq_false_iff_not]; omega
  · intro a _ c
    have : (1000000 : Int) ≤ (2 ^ 63 - 1) / n := by
      rw [Int.le_ediv_iff_mul_le (by omega)]
      omega
    omega
  · intro a _
    unfold Builtin.Str.tooLong
    rw [decide_eq_false_iff_not]
    have := lineBig0
    omega
  · unfold repStr at q
    by_cases z : n < 1
    · rw [if_pos z] at q ⊢
      exact ⟨by decide, ⟨.str _, H, I.tok _, ⟨_, rfl⟩, q⟩⟩
    · rw [if_neg z] at q ⊢
      by_cases y : (n == 1 || i.length == 0) = true
      · rw [if_pos y] at q ⊢
        exact ⟨.str _, H, I, ⟨_, rfl⟩, q⟩
      · rw [if_neg y] at q ⊢
        exact ⟨Nat.le_trans (by show (Array.size _) ≤ _; rw [rep_size]; have e : i.cps.size = i.length := rfl; rw [e, Nat.mul_comm]; omega) lineBig0, ⟨.str _, H, I.tok _, ⟨_, rfl⟩, q⟩⟩
inductive MulR : W → W → W → Prop
  | str {x : Str} {k : Int} (h1 : -1000000 ≤ k ∧ k ≤ 1000000 ∧ x.length ≤ 1000000 ∧ x.length * k.toNat ≤ 1000000) : MulR (.d (.str x)) (.d (.int k)) (.d (.str (repStr x k)))
  | int {i j : Int} (h : CMulW i j) : MulR (.d (.int i)) (.d (.int j)) (.d (.int (i * j)))
  | lst {ds : List PyData} {k : Int} (h1 : -(2 ^ 63) ≤ k) (h2 : k < 2 ^ 63) (h : ds.length * k.toNat ≤ sizeLine) : MulR (.lst (ds.map W.d)) (.d (.int k)) (.lst ((List.replicate k.toNat ds).flatten.map W.d))
theorem Dqs.rep {K : PySem.W.Frag} {F : Hp} {ds : List PyData} {vs : List V} (h : Dqs K F ds vs) : ∀ k : Nat, Dqs K F (List.replicate k ds).flatten (List.replicate k vs).flatten
  | 0 => by rw [List.replicate_zero, List.replicate_zero, List.flatten_nil, List.flatten_nil, dqs_nil]
  | k + 1 => by
    rw [List.replicate_succ, List.replicate_succ, List.flatten_cons, List.flatten_cons]
    exact Dqs.append h (Dqs.rep h k)
theorem oa_mul : OpA X (binaryOp .Mult) MulR := by
  refine ⟨_, (op_mulW.or op_rep).or op_repS, fun F H wx wy vx vy A B res QH s rx ry hr k => ?_⟩
  cases hr with
  | str h =>
    rw [rep_d, dq_str] at rx
    rw [rep_d, dq_int] at ry
    exact .inr ⟨_, _, rx.1, ry.1, h.1, h.2.1, h.2.2.1, h.2.2.2, k _ F H (New.pure (by rw [dq_str]))⟩
  | int h =>
    rw [rep_d, dq_int] at rx ry
    exact .inl (.inl ⟨_, _, rx.1, ry.1, h, k _ F H (New.pure (by rw [dq_int]))⟩)
  | lst h1 h2 h =>
    rw [rep_lst] at rx
    obtain ⟨a, vs, C, rfl, _, ha, r⟩ := rx
    rw [rep_d, dq_int] at ry
    have d := r.toD.1
    exact .inl (.inr ⟨a, _, vs, rfl, ry.1, ha, h1, h2, by rw [d.len]; exact h, fun p hp => k _ F _ (New.lst hp (d.rep _))⟩)

/-! ### comparisons -/
mutual
theorem Dq.dp {K : PySem.W.Frag} {F H : Hp} (s : Same F H) : ∀ {x : PyData} {v : V}, x.canLay0 = true → Dq K F x v → Dp K H v x
  | .none, v, _, h => by rw [dq_none] at h; rw [h]; exact .non
  | .bool b, v, _, h => by rw [dq_bool] at h; rw [h]; exact .bl b
  | .int i, v, _, h => by rw [dq_int] at h; rw [h]; exact .int i
  | .str x, v, _, h => by rw [dq_str] at h; rw [h]; exact .str x
  | .list ds, v, c, h => by
    rw [dq_list] at h
    obtain ⟨a, vs, rfl, q, d⟩ := h
    simp only [PyData.canLay0] at c
    exact .lst (s.seq q) (Dqs.dp s c d)
  | .tuple ds, v, c, h => by
    rw [dq_tup] at h
    obtain ⟨a, vs, rfl, q, d⟩ := h
    simp only [PyData.canLay0] at c
    exact .tup (s.sqT q) (Dqs.dp s c d)
  | .dict ds, v, c, h => by simp only [PyData.canLay0] at c; cases c
theorem Dqs.dp {K : PySem.W.Frag} {F H : Hp} (s : Same F H) : ∀ {xs : List PyData} {vs : List V}, PyData.canLayAll0 xs = true → Dqs K F xs vs → DpAll K H vs xs
  | [], vs, _, h => by rw [dqs_nil] at h; rw [h]; exact .nil
  | d :: ds, vs, c, h => by
    rw [dqs_cons] at h
    obtain ⟨v, r, rfl, p, q⟩ := h
    simp only [PyData.canLayAll0, Bool.and_eq_true] at c
    exact .cons (Dq.dp s c.1 p) (Dqs.dp s c.2 q)
end
mutual
theorem Rfy.dp {K : PySem.W.Frag} {F H : Hp} (s : Same F H) : ∀ {w : W} {x : PyData} {v : V} {A : List Addr}, Rfy w x → x.canLay0 = true → Rep K F H w v A → Dp K H v x
  | _, _, v, A, .d x, c, r => by
    rw [rep_d] at r
    exact r.1.dp s c
  | _, _, v, A, .lst q, c, r => by
    rw [rep_lst] at r
    obtain ⟨a, vs, B, rfl, _, h, r⟩ := r
    simp only [PyData.canLay0] at c
    exact .lst (SqL.of h) (Rfys.dp s q c r)
  | _, _, v, A, .dk q, c, r => by simp only [PyData.canLay0] at c; cases c
theorem Rfys.dp {K : PySem.W.Frag} {F H : Hp} (s : Same F H) : ∀ {ws : List W} {xs : List PyData} {vs : List V} {A : List Addr}, Rfys ws xs → PyData.canLayAll0 xs = true → Reps K F H ws vs A → DpAll K H vs xs
  | _, _, vs, A, .nil, c, r => by
    rw [reps_nil] at r
    rw [r.1]
    exact .nil
  | _, _, vs, A, .cons q1 q2, c, r => by
    rw [reps_cons] at r
    obtain ⟨v, r', B, C, rfl, _, r1, r2⟩ := r
    simp only [PyData.canLayAll0, Bool.and_eq_true] at c
    exact .cons (Rfy.dp s q1 c.1 r1) (Rfys.dp s q2 c.2 r2)
end
inductive EqR : W → W → W → Prop
  | int {i j : Int} : EqR (.d (.int i)) (.d (.int j)) (.d (.bool (decide (i = j))))
  | str {i j : Str} : EqR (.d (.str i)) (.d (.str j)) (.d (.bool (decide (i = j))))
  | data {wx wy : W} {x y : PyData} (hx : Rfy wx x) (hy : Rfy wy y) (sx : SeqAt.shaped x = true) (sy : SeqAt.shaped y = true) : EqR wx wy (.d (.bool (PyData.eqv x y)))
inductive NeR : W → W → W → Prop
  | int {i j : Int} : NeR (.d (.int i)) (.d (.int j)) (.d (.bool (!decide (i = j))))
  | str {i j : Str} : NeR (.d (.str i)) (.d (.str j)) (.d (.bool (!decide (i = j))))
  | data {wx wy : W} {x y : PyData} (hx : Rfy wx x) (hy : Rfy wy y) (sx : SeqAt.shaped x = true) (sy : SeqAt.shaped y = true) : NeR wx wy (.d (.bool (!PyData.eqv x y)))
theorem decV_int {i j : Int} : decide (V.int i = V.int j) = decide (i = j) := by simp
theorem decV_str {i j : Str} : decide (V.str i = V.str j) = decide (i = j) := by simp
theorem oa_eq (hu : X.A.units + 64 < cLine) : OpA X (compareOp .Eq) EqR := by
  refine ⟨_, op_eq.or (op_eqD hu), fun F H wx wy vx vy A B res QH s rx ry hr k => ?_⟩
  cases hr with
  | int =>
    rw [rep_d, dq_int] at rx ry
    refine .inl ⟨by rw [rx.1, ry.1]; rfl, ?_⟩
    rw [rx.1, ry.1, decV_int]
    exact k _ F H (New.pure (by rw [dq_bool]))
  | str =>
    rw [rep_d, dq_str] at rx ry
    refine .inl ⟨by rw [rx.1, ry.1]; rfl, ?_⟩
    rw [rx.1, ry.1, decV_str]
    exact k _ F H (New.pure (by rw [dq_bool]))
  | data hx hy sx sy => exact .inr ⟨_, _, hx.dp s (SeqAt.canLay_of_shaped sx) rx, hy.dp s (SeqAt.canLay_of_shaped sy) ry, sx, sy, k _ F H (New.pure (by rw [dq_bool]))⟩
theorem oa_ne (hu : X.A.units + 64 < cLine) : OpA X (compareOp .NotEq) NeR := by
  refine ⟨_, op_ne.or (op_neD hu), fun F H wx wy vx vy A B res QH s rx ry hr k => ?_⟩
  cases hr with
  | int =>
    rw [rep_d, dq_int] at rx ry
    refine .inl ⟨by rw [rx.1, ry.1]; rfl, ?_⟩
    rw [rx.1, ry.1, decV_int]
    exact k _ F H (New.pure (by rw [dq_bool]))
  | str =>
    rw [rep_d, dq_str] at rx ry
    refine .inl ⟨by rw [rx.1, ry.1]; rfl, ?_⟩
    rw [rx.1, ry.1, decV_str]
    exact k _ F H (New.pure (by rw [dq_bool]))
  | data hx hy sx sy => exact .inr ⟨_, _, hx.dp s (SeqAt.canLay_of_shaped sx) rx, hy.dp s (SeqAt.canLay_of_shaped sy) ry, sx, sy, k _ F H (New.pure (by rw [dq_bool]))⟩
def isNon : PyData → Bool
  | .none => true
  | _ => false
inductive IsNR : W → W → W → Prop
  | mk {x : PyData} : IsNR (.d x) (.d .none) (.d (.bool (isNon x)))
theorem dec_non {K : PySem.W.Frag} {F : Hp} {x : PyData} {v : V} (h : Dq K F x v) : decide (v = .non) = isNon x := by
  cases x with
  | none => rw [dq_none] at h; rw [h]; simp [isNon]
  | bool b => rw [dq_bool] at h; rw [h]; simp [isNon]
  | int b => rw [dq_int] at h; rw [h]; simp [isNon]
  | str b => rw [dq_str] at h; rw [h]; simp [isNon]
  | list b => rw [dq_list] at h; obtain ⟨_, _, e, _⟩ := h; rw [e]; simp [isNon]
  | tuple b => rw [dq_tup] at h; obtain ⟨_, _, e, _⟩ := h; rw [e]; simp [isNon]
  | dict b => rw [dq_dict] at h; obtain ⟨_, _, e, _⟩ := h; rw [e]; simp [isNon]
theorem oa_isN : OpA X (compareOp .Is) IsNR := ⟨_, op_isN, fun F H wx wy vx vy A B res QH s rx ry hr k => by
  cases hr
  rw [rep_d] at rx ry
  rw [dq_none] at ry
  exact ⟨ry.1, by rw [dec_non rx.1]; exact k _ F H (New.pure (by rw [dq_bool]))⟩⟩
inductive NotNR : W → W → W → Prop
  | mk {x : PyData} : NotNR (.d x) (.d .none) (.d (.bool (!isNon x)))
theorem oa_notN : OpA X (compareOp .IsNot) NotNR := ⟨_, op_notN, fun F H wx wy vx vy A B res QH s rx ry hr k => by
  cases hr
  rw [rep_d] at rx ry
  rw [dq_none] at ry
  exact ⟨ry.1, by rw [dec_non rx.1]; exact k _ F H (New.pure (by rw [dq_bool]))⟩⟩
/-- in -/
theorem Dqs.strs {K : PySem.W.Frag} {F : Hp} : ∀ {xs : List Str} {vs : List V}, Dqs K F (xs.map PyData.str) vs → vs = xs.map V.str
  | [], _, h => by rw [List.map_nil, dqs_nil] at h; rw [h]; rfl
  | x :: xs, _, h => by
    rw [List.map_cons, dqs_cons] at h
    obtain ⟨v, r, rfl, p, q⟩ := h
    rw [dq_str] at p
    rw [p, Dqs.strs q]
    rfl
theorem Dqs.ints {K : PySem.W.Frag} {F : Hp} : ∀ {xs : List Int} {vs : List V}, Dqs K F (xs.map PyData.int) vs → vs = xs.map V.int
  | [], _, h => by rw [List.map_nil, dqs_nil] at h; rw [h]; rfl
  | x :: xs, _, h => by
    rw [List.map_cons, dqs_cons] at h
    obtain ⟨v, r, rfl, p, q⟩ := h
    rw [dq_int] at p
    rw [p, Dqs.ints q]
    rfl
theorem all_flatS (xs : List Str) : (xs.map V.str).all flatV = true := by
  induction xs with
  | nil => rfl
  | cons x xs ih => rw [List.map_cons, List.all_cons, ih]; rfl
theorem all_flatI (xs : List Int) : (xs.map V.int).all flatV = true := by
  induction xs with
  | nil => rfl
  | cons x xs ih => rw [List.map_cons, List.all_cons, ih]; rfl
theorem inV_str (x : Str) (xs : List Str) : inV (.str x) (xs.map V.str) = decide (x ∈ xs) := by
  unfold inV
  rw [Bool.eq_iff_iff, List.any_eq_true, decide_eq_true_eq]
  constructor
  · rintro ⟨v, hv, e⟩
    obtain ⟨y, hy, rfl⟩ := List.mem_map.mp hv
    have e : (y == x) = true := e
    rw [← eq_of_beq e]
    exact hy
  · intro h
    exact ⟨.str x, List.mem_map.mpr ⟨x, h, rfl⟩, (beq_self_eq_true x : (x == x) = true)⟩
theorem inV_int (x : Int) (xs : List Int) : inV (.int x) (xs.map V.int) = decide (x ∈ xs) := by
  unfold inV
  rw [Bool.eq_iff_iff, List.any_eq_true, decide_eq_true_eq]
  constructor
  · rintro ⟨v, hv, e⟩
    obtain ⟨y, hy, rfl⟩ := List.mem_map.mp hv
    have e : (y == x) = true := e
    rw [← eq_of_beq e]
    exact hy
  · intro h
    exact ⟨.int x, List.mem_map.mpr ⟨x, h, rfl⟩, (beq_self_eq_true x : (x == x) = true)⟩
inductive InR (n : Bool) : W → W → W → Prop
  | strL {x : Str} {w : W} {xs : List Str} (h : DL w (xs.map PyData.str)) : InR n (.d (.str x)) w (.d (.bool (if n then !decide (x ∈ xs) else decide (x ∈ xs))))
  | strT {x : Str} {w : W} {xs : List Str} (h : DT w (xs.map PyData.str)) : InR n (.d (.str x)) w (.d (.bool (if n then !decide (x ∈ xs) else decide (x ∈ xs))))
  | intT {x : Int} {w : W} {xs : List Int} (h : DT w (xs.map PyData.int)) : InR n (.d (.int x)) w (.d (.bool (if n then !decide (x ∈ xs) else decide (x ∈ xs))))
  | intL {x : Int} {w : W} {xs : List Int} (h : DL w (xs.map PyData.int)) : InR n (.d (.int x)) w (.d (.bool (if n then !decide (x ∈ xs) else decide (x ∈ xs))))
  | sign {c : Nat} {z : Str} : InR n (.d (.str ⟨#[c]⟩)) (.d (.str z)) (.d (.bool (if n then !decide (c ∈ z.cps.toList) else decide (c ∈ z.cps.toList))))
theorem in_core {n : Bool} {r : R2} {F H : Hp} {wx wy : W} {vx vy : V} {A B : List Addr} {res : W} {QH : VK} (s : Same F H) (rx : Rep X.K F H wx vx A) (ry : Rep X.K F H wy vy B) (hr : InR n wx wy res) (k : ∀ v F' H', New X.K F H res v F' H' → QH v H')
    (h1 : ∀ {x y Q}, rIn X.K n x y H Q → r x y H Q) (h2 : ∀ {x y Q}, (∃ (c : Nat) (z : Str), x = .str ⟨#[c]⟩ ∧ y = .str z ∧ Q (.bl (if n then !decide (c ∈ z.cps.toList) else decide (c ∈ z.cps.toList))) H) → r x y H Q) : r vx vy H QH := by
  cases hr with
  | strL h =>
    rw [rep_d, dq_str] at rx
    obtain ⟨a, vs, rfl, q, d⟩ := h.ok s ry
    rw [d.strs] at q
    rw [rx.1]
    exact h1 ⟨a, _, rfl, .inl q, rfl, all_flatS _, by rw [inV_str]; exact k _ F H (New.pure (by rw [dq_bool]))⟩
  | strT h =>
    rw [rep_d, dq_str] at rx
    obtain ⟨a, vs, rfl, q, d⟩ := h.ok s ry
    rw [d.strs] at q
    rw [rx.1]
    exact h1 ⟨a, _, rfl, .inr q, rfl, all_flatS _, by rw [inV_str]; exact k _ F H (New.pure (by rw [dq_bool]))⟩
  | intT h =>
    rw [rep_d, dq_int] at rx
    obtain ⟨a, vs, rfl, q, d⟩ := h.ok s ry
    rw [d.ints] at q
    rw [rx.1]
    exact h1 ⟨a, _, rfl, .inr q, rfl, all_flatI _, by rw [inV_int]; exact k _ F H (New.pure (by rw [dq_bool]))⟩
  | intL h =>
    rw [rep_d, dq_int] at rx
    obtain ⟨a, vs, rfl, q, d⟩ := h.ok s ry
    rw [d.ints] at q
    rw [rx.1]
    exact h1 ⟨a, _, rfl, .inl q, rfl, all_flatI _, by rw [inV_int]; exact k _ F H (New.pure (by rw [dq_bool]))⟩
  | sign =>
    rw [rep_d, dq_str] at rx ry
    exact h2 ⟨_, _, rx.1, ry.1, k _ F H (New.pure (by rw [dq_bool]))⟩
theorem oa_in : OpA X (compareOp .In) (InR false) := ⟨_, op_in_seq.or op_in_sign, fun F H wx wy vx vy A B res QH s rx ry hr k => in_core (r := fun x y H Q => rIn X.K false x y H Q ∨ ∃ (c : Nat) (z : Str), x = .str ⟨#[c]⟩ ∧ y = .str z ∧ Q (.bl (decide (c ∈ z.cps.toList))) H) s rx ry hr k (fun h => .inl h) fun h => .inr h⟩
theorem oa_notIn : OpA X (compareOp .NotIn) (InR true) := ⟨_, op_notIn_seq.or op_notIn_sign, fun F H wx wy vx vy A B res QH s rx ry hr k => in_core (r := fun x y H Q => rIn X.K true x y H Q ∨ ∃ (c : Nat) (z : Str), x = .str ⟨#[c]⟩ ∧ y = .str z ∧ Q (.bl (!decide (c ∈ z.cps.toList))) H) s rx ry hr k (fun h => .inl h) fun h => .inr h⟩

/-! ### subscripts, slices -/
structure IxA (X : Cx) (R : W → W → W → Prop) : Prop where
  ex : ∃ r : R2, IxR X r ∧ ∀ F H wx wy vx vy A B res (QH : VK), Same F H → Rep X.K F H wx vx A → Rep X.K F H wy vy B → R wx wy res → (∀ v F' H', New X.K F H res v F' H' → QH v H') → r vx vy H QH
variable {a b e : Expr} {ta tb te : TEA} {pos : Pos}
theorem ae_ix {R : W → W → W → Prop} (hr : IxA X R) (ha : AE X a ta) (hb : AE X b tb) (hs : PlainIx b := by exact fun _ _ => rfl) : AE X (.Subscript a b pos) (tBin R ta tb) := by
  obtain ⟨r, p, q⟩ := hr.ex
  obtain ⟨tHa, pa, qa⟩ := ha.ex
  obtain ⟨tHb, pb, qb⟩ := hb.ex
  exact ⟨_, pe_ix p pa pb hs, fun E F φ ε σ H τ Q QH S h k => bin_core (f := fun x y => getItem x y) q qa qb S h k⟩
inductive IxW : W → W → W → Prop
  | L {w : W} {ds : List PyData} {i : Int} {d : PyData} (h : DL w ds) (hi : atI ds i = some d) : IxW w (.d (.int i)) (.d d)
  | T {w : W} {ds : List PyData} {i : Int} {d : PyData} (h : DT w ds) (hi : atI ds i = some d) : IxW w (.d (.int i)) (.d d)
  | S {z : Str} {i : Int} {c : Nat} (hz : z.length ≤ sizeLine) (hi : atI z.cps.toList i = some c) : IxW (.d (.str z)) (.d (.int i)) (.d (.str ⟨#[c]⟩))
theorem Dqs.at {K : PySem.W.Frag} {F : Hp} {ds : List PyData} {vs : List V} {i : Int} {d : PyData} (h : Dqs K F ds vs) (e : atI ds i = some d) : ∃ v, atI vs i = some v ∧ Dq K F d v := by
  unfold atI at e ⊢
  rw [h.len]
  cases q : ixN ds.length i with
  | none => rw [q] at e; cases e
  | some j =>
    rw [q] at e
    have e : ds[j]? = some d := e
    obtain ⟨v, e1, e2⟩ := h.get e
    exact ⟨v, e1, e2⟩
theorem ia : IxA X IxW := by
  refine ⟨_, ix_seq, fun F H wx wy vx vy A B res QH s rx ry hr k => ?_⟩
  cases hr with
  | L h hi =>
    rw [rep_d, dq_int] at ry
    obtain ⟨p, vs, rfl, q, d⟩ := h.ok s rx
    obtain ⟨v, e1, e2⟩ := d.at hi
    exact .inl ⟨p, vs, _, v, rfl, ry.1, q, e1, k v F H (New.pure e2)⟩
  | T h hi =>
    rw [rep_d, dq_int] at ry
    obtain ⟨p, vs, rfl, q, d⟩ := h.ok s rx
    obtain ⟨v, e1, e2⟩ := d.at hi
    exact .inr (.inl ⟨p, vs, _, v, rfl, ry.1, q, e1, k v F H (New.pure e2)⟩)
  | S hz hi =>
    rw [rep_d, dq_int] at ry
    rw [rep_d, dq_str] at rx
    exact .inr (.inr ⟨_, _, _, rx.1, ry.1, hz, hi, k _ F H (New.pure (by rw [dq_str]))⟩)

abbrev TOA := Env → (Option Int → Env → Prop) → Prop
structure AO (X : Cx) (e : Option Expr) (t : TOA) : Prop where
  ex : ∃ tH : TO, PO X e tH ∧ ∀ (E : Ent) F φ ε σ H τ (Q : Option Int → Env → Prop) (QH : Option Int → Hp → Prop), Sta X.K E F φ ε σ H τ → t ε Q →
    (∀ o F' φ' ε' H', Sta X.K E F' φ' ε' σ H' τ → Q o ε' → QH o H') → tH σ H QH
def tNoPart : TOA := fun ε Q => Q none ε
def tPart (t : TEA) : TOA := fun ε Q => t ε fun x ε1 => ∃ i, x = .v (.d (.int i)) ∧ Q (some i) ε1
theorem ao_none : AO X none tNoPart := ⟨_, po_none, fun E F φ ε σ H τ Q QH S h k => k none F φ ε H S h⟩
theorem ao_some (h : AE X e te) : AO X (some e) (tPart te) := by
  obtain ⟨_, p, q⟩ := h.ex
  refine ⟨_, po_some p, fun E F φ ε σ H τ Q QH S h k => ?_⟩
  refine q E F φ ε σ H τ _ _ S h fun x v F1 φ1 ε1 H1 S1 ok h1 => ?_
  obtain ⟨i, rfl, h1⟩ := h1
  obtain ⟨A, r, _, _⟩ := S1.view ok rfl
  rw [rep_d, dq_int] at r
  exact ⟨i, r.1, k (some i) F1 φ1 ε1 H1 (Sta.drop (r := [(_, v)]) S1) h1⟩
/-- xs[lo:hi] of data -/
def cutD {α : Type} (xs : List α) (lo hi : Option Int) : List α := (xs.drop (HT.sIx xs.length 0 lo)).take (HT.sIx xs.length xs.length hi - HT.sIx xs.length 0 lo)
theorem Dqs.take {K : PySem.W.Frag} {F : Hp} : ∀ {ds : List PyData} {vs : List V} (n : Nat), Dqs K F ds vs → Dqs K F (ds.take n) (vs.take n)
  | _, _, 0, _ => by rw [List.take_zero, List.take_zero, dqs_nil]
  | [], _, n + 1, h => by rw [dqs_nil] at h; rw [h, List.take_nil, List.take_nil, dqs_nil]
  | d :: ds, _, n + 1, h => by
    rw [dqs_cons] at h
    obtain ⟨v, r, rfl, p, q⟩ := h
    rw [List.take_succ_cons, List.take_succ_cons, dqs_cons]
    exact ⟨v, _, rfl, p, Dqs.take n q⟩
theorem Dqs.drop {K : PySem.W.Frag} {F : Hp} : ∀ {ds : List PyData} {vs : List V} (n : Nat), Dqs K F ds vs → Dqs K F (ds.drop n) (vs.drop n)
  | _, _, 0, h => by rw [List.drop_zero, List.drop_zero]; exact h
  | [], _, n + 1, h => by rw [dqs_nil] at h; rw [h, List.drop_nil, List.drop_nil, dqs_nil]
  | d :: ds, _, n + 1, h => by
    rw [dqs_cons] at h
    obtain ⟨v, r, rfl, p, q⟩ := h
    rw [List.drop_succ_cons, List.drop_succ_cons]
    exact Dqs.drop n q
def tSlL (te : TEA) (tl th : TOA) : TEA := fun ε Q => te ε fun x ε1 => tl ε1 fun lo ε2 => th ε2 fun hi ε3 => ∃ w ds ε4, cnt ε3 x = some w ∧ bck x ε3 = some ε4 ∧ DL w ds ∧ Q (.v (.lst ((cutD ds lo hi).map W.d))) ε4
theorem ae_slL {lo hi : Option Expr} {tl th : TOA} {p2 : Pos} (he : AE X e te) (hl : AO X lo tl) (hh : AO X hi th) : AE X (.Subscript e (.Slice lo hi none p2) pos) (tSlL te tl th) := by
  obtain ⟨_, p, q⟩ := he.ex
  obtain ⟨_, pl, ql⟩ := hl.ex
  obtain ⟨_, ph, qh⟩ := hh.ex
  refine ⟨_, pe_slice sl_list p pl ph, fun E F φ ε σ H τ Q QH S h k => ?_⟩
  refine q E F φ ε σ H τ _ _ S h fun x v F1 φ1 ε1 H1 S1 ok h1 => ?_
  refine ql E F1 φ1 ε1 σ H1 _ _ _ S1 h1 fun lo F2 φ2 ε2 H2 S2 h2 => ?_
  refine qh E F2 φ2 ε2 σ H2 _ _ _ S2 h2 fun hi F3 φ3 ε3 H3 S3 h3 => ?_
  obtain ⟨w, ds, ε4, c, b, dl, h4⟩ := h3
  obtain ⟨A, r, _, _⟩ := S3.view ok c
  obtain ⟨φ4, S4⟩ := S3.back ok b
  obtain ⟨a, vs, rfl, sq, dq⟩ := dl.ok S3.sub r
  refine ⟨a, vs, rfl, sq, fun p hp => ?_⟩
  have hd : Dqs X.K F3 (cutD ds lo hi) (cutV vs lo hi) := by
    unfold cutD cutV
    rw [dq.len]
    exact (dq.drop _).take _
  obtain ⟨φ5, S5⟩ := S4.new (New.lst hp hd)
  exact k (.v (.lst ((cutD ds lo hi).map W.d))) _ F3 φ5 ε4 _ S5 True.intro h4

/-! ### built-ins -/
theorem cont1 {K : PySem.W.Frag} {F H : Hp} {w : W} {vs : List V} (c : Cont K F H [w] vs) : ∃ v A, vs = [v] ∧ Rep K F H w v A := by
  match vs, c with
  | [v], ⟨⟨A, r⟩, _⟩ => exact ⟨v, A, rfl, r⟩
theorem cont2 {K : PySem.W.Frag} {F H : Hp} {w u : W} {vs : List V} (c : Cont K F H [w, u] vs) : ∃ v z A B, vs = [v, z] ∧ Rep K F H w v A ∧ Rep K F H u z B := by
  match vs, c with
  | [v, z], ⟨⟨A, r⟩, ⟨B, q⟩, _⟩ => exact ⟨v, z, A, B, rfl, r, q⟩
inductive LenR : List W → W → Prop
  | L {w : W} {ds : List PyData} (h : DL w ds) : LenR [w] (.d (.int ds.length))
  | T {w : W} {ds : List PyData} (h : DT w ds) : LenR [w] (.d (.int ds.length))
  | S {x : Str} (h : x.length ≤ sizeLine) : LenR [.d (.str x)] (.d (.int x.length))
  | lst {ws : List W} : LenR [.lst ws] (.d (.int ws.length))
theorem ca_len : ClA X (.builtin "len") LenR := by
  refine ⟨_, call_len, fun F H ws vs res QH s c hr k => ?_⟩
  cases hr with
  | L h =>
    obtain ⟨v, A, rfl, r⟩ := cont1 c
    obtain ⟨a, us, rfl, q, d⟩ := h.ok s r
    exact ⟨_, _, rfl, .inl ⟨us, q, rfl⟩, by rw [d.len]; exact k _ F H (New.pure (by rw [dq_int]))⟩
  | T h =>
    obtain ⟨v, A, rfl, r⟩ := cont1 c
    obtain ⟨a, us, rfl, q, d⟩ := h.ok s r
    exact ⟨_, _, rfl, .inr ⟨us, q, rfl⟩, by rw [d.len]; exact k _ F H (New.pure (by rw [dq_int]))⟩
  | S h =>
    obtain ⟨v, A, rfl, r⟩ := cont1 c
    rw [rep_d, dq_str] at r
    rw [r.1]
    exact ⟨_, _, rfl, ⟨h, rfl⟩, k _ F H (New.pure (by rw [dq_int]))⟩
  | lst =>
    obtain ⟨v, A, rfl, r⟩ := cont1 c
    rw [rep_lst] at r
    obtain ⟨a, us, B, rfl, _, q, d⟩ := r
    exact ⟨_, _, rfl, .inl ⟨us, SqL.of q, rfl⟩, by rw [d.len]; exact k _ F H (New.pure (by rw [dq_int]))⟩
inductive AbsR : List W → W → Prop
  | mk {i : Int} : AbsR [.d (.int i)] (.d (.int (if i < 0 then -i else i)))
theorem ca_abs : ClA X (.builtin "abs") AbsR := ⟨_, call_abs, fun F H ws vs res QH s c hr k => by
  cases hr
  obtain ⟨v, A, rfl, r⟩ := cont1 c
  rw [rep_d, dq_int] at r
  rw [r.1]
  exact ⟨_, rfl, k _ F H (New.pure (by rw [dq_int]))⟩⟩
inductive MaxR : List W → W → Prop
  | mk {i j : Int} : MaxR [.d (.int i), .d (.int j)] (.d (.int (if j > i then j else i)))
theorem ca_max (hc : X.calm = true) : ClA X (.builtin "max") MaxR := ⟨_, call_max2 hc, fun F H ws vs res QH s c hr k => by
  cases hr
  obtain ⟨v, z, A, B, rfl, r, q⟩ := cont2 c
  rw [rep_d, dq_int] at r q
  rw [r.1, q.1]
  exact ⟨_, _, rfl, k _ F H (New.pure (by rw [dq_int]))⟩⟩
inductive MinR : List W → W → Prop
  | mk {i j : Int} : MinR [.d (.int i), .d (.int j)] (.d (.int (if j < i then j else i)))
theorem ca_min (hc : X.calm = true) : ClA X (.builtin "min") MinR := ⟨_, call_min2 hc, fun F H ws vs res QH s c hr k => by
  cases hr
  obtain ⟨v, z, A, B, rfl, r, q⟩ := cont2 c
  rw [rep_d, dq_int] at r q
  rw [r.1, q.1]
  exact ⟨_, _, rfl, k _ F H (New.pure (by rw [dq_int]))⟩⟩
inductive IntCR : List W → W → Prop
  | int {i : Int} : IntCR [.d (.int i)] (.d (.int i))
  | bool {b : Bool} : IntCR [.d (.bool b)] (.d (.int (if b then 1 else 0)))
theorem ca_int : ClA X (.type "int") IntCR := ⟨_, call_int1, fun F H ws vs res QH s c hr k => by
  cases hr with
  | int =>
    obtain ⟨v, A, rfl, r⟩ := cont1 c
    rw [rep_d, dq_int] at r
    rw [r.1]
    exact .inl ⟨_, rfl, k _ F H (New.pure (by rw [dq_int]))⟩
  | bool =>
    obtain ⟨v, A, rfl, r⟩ := cont1 c
    rw [rep_d, dq_bool] at r
    rw [r.1]
    exact .inr ⟨_, rfl, k _ F H (New.pure (by rw [dq_int]))⟩⟩
inductive StrR : List W → W → Prop
  | int {i : Int} (h : i.natAbs.log2 < 1920) : StrR [.d (.int i)] (.d (.str (toString i)))
theorem ca_str : ClA X (.type "str") StrR := ⟨_, call_str_int, fun F H ws vs res QH s c hr k => by
  cases hr with
  | int h =>
    obtain ⟨v, A, rfl, r⟩ := cont1 c
    rw [rep_d, dq_int] at r
    rw [r.1]
    exact ⟨_, rfl, h, k _ F H (New.pure (by rw [dq_str]))⟩⟩
inductive ListR : List W → W → Prop
  | L {w : W} {ds : List PyData} (h : DL w ds) : ListR [w] (.lst (ds.map W.d))
  | T {w : W} {ds : List PyData} (h : DT w ds) : ListR [w] (.lst (ds.map W.d))
theorem ca_list : ClA X (.type "list") ListR := ⟨_, call_list_of, fun F H ws vs res QH s c hr k => by
  cases hr with
  | L h =>
    obtain ⟨v, A, rfl, r⟩ := cont1 c
    obtain ⟨a, us, rfl, q, d⟩ := h.ok s r
    exact ⟨a, us, rfl, .inl q, fun l hl => k _ F _ (New.lst hl d)⟩
  | T h =>
    obtain ⟨v, A, rfl, r⟩ := cont1 c
    obtain ⟨a, us, rfl, q, d⟩ := h.ok s r
    exact ⟨a, us, rfl, .inr q, fun l hl => k _ F _ (New.lst hl d)⟩⟩
end
end Ab

namespace Ab
open PySem PySem.Spec PyProof.Rows L2

/-! ## methods that change what they are called on -/
section
variable {K : PySem.W.Frag} {E : Ent} {F F' H H' : Hp} {φ φ' : Addr → Option Nat} {ε ε' : Env} {σ σ' : L2.St} {τ τ' : List (W × V)} {rv : EV} {v u : V} {w w' res : W} {A B A' Ar : List Addr}
theorem Sta.mutS {i : Nat} {ws : List W} {vs : List V} (S : Sta K E F φ ε σ H (τ ++ ws.zip vs)) (hi : i < ε.length) (es : σ[i]? = some (some v)) (hA : ∀ a ∈ A, φ a = some i) (hB : ∀ a ∈ B, ∃ k, φ a = some k ∧ ε.length + τ.length ≤ k)
    (off : ∀ b, b ∉ A → H' b = H b) (pre : ∀ b, H' b = none → H b = none) (rr : Rep K F H' res u Ar) (rw' : Rep K F H' w' v A') (nd : (Ar ++ A').Nodup) (sub : ∀ a ∈ Ar ++ A', a ∈ A ∨ a ∈ B) :
    ∃ φ', Sta K E F φ' (ε.set i (some w')) σ H' (τ ++ [(res, u)]) := by
  obtain ⟨n1, n2, n3⟩ := List.nodup_append.mp nd
  have S0 : Sta K E F φ ε σ H τ := Sta.drop S
  have none_of : ∀ a k, φ a = some k → k ≠ i → k < ε.length + τ.length → a ∉ A ∧ a ∉ B := fun a k h h1 h2 => ⟨fun z => by
    have q := hA a z
    rw [h] at q
    exact h1 (Option.some.inj q), fun z => by
    obtain ⟨j, q, hj⟩ := hB a z
    rw [h] at q
    cases q
    omega⟩
  have nF : ∀ a, a ∈ A ∨ a ∈ B → F a = none ∧ H a ≠ none ∧ ∃ j, φ a = some j := fun a h => by
    rcases h with h | h
    · exact ⟨(S.own a i (hA a h)).1, (S.own a i (hA a h)).2.1, i, hA a h⟩
    · obtain ⟨j, q, _⟩ := hB a h
      exact ⟨(S.own a j q).1, (S.own a j q).2.1, j, q⟩
  refine ⟨fun a => if a ∈ Ar then some (ε.length + τ.length) else if a ∈ A' then some i else if a ∈ A ∨ a ∈ B then none else φ a, S0.step (R := fun k => k ≠ i ∧ k < ε.length + τ.length) ⟨Same.refl _, fun b h => .inl h, fun b o h => ?_, pre, fun b o h hφ => ?_, fun a k h hk => ⟨?_, ?_⟩, fun b k h => ?_⟩ (by rw [List.length_set]; exact S.len) (List.length_set ..) S.fix (fun j w0 h => ?_) (fun j w0 v0 h => ?_)⟩
  · rw [off b (fun z => by rw [(nF b (.inl z)).1] at h; cases h)]; exact S.sub b o h
  · rw [off b (fun z => by rw [hA b z] at hφ; cases hφ)]; exact h
  · exact off a (none_of a k h hk.1 hk.2).1
  · have z := none_of a k h hk.1 hk.2
    show (if a ∈ Ar then some (ε.length + τ.length) else if a ∈ A' then some i else if a ∈ A ∨ a ∈ B then none else φ a) = some k
    rw [if_neg (fun y => (sub a (List.mem_append_left _ y)).elim z.1 z.2), if_neg (fun y => (sub a (List.mem_append_right _ y)).elim z.1 z.2), if_neg (fun y => y.elim z.1 z.2)]
    exact h
  · have h : (if b ∈ Ar then some (ε.length + τ.length) else if b ∈ A' then some i else if b ∈ A ∨ b ∈ B then none else φ b) = some k := h
    have fin : b ∈ A ∨ b ∈ B → F b = none ∧ H' b ≠ none ∧ ((∃ j, φ b = some j) ∨ H b = none) := fun z => ⟨(nF b z).1, fun y => (nF b z).2.1 (pre b y), .inl (nF b z).2.2⟩
    by_cases z1 : b ∈ Ar
    · exact fin (sub b (List.mem_append_left _ z1))
    · rw [if_neg z1] at h
      by_cases z2 : b ∈ A'
      · exact fin (sub b (List.mem_append_right _ z2))
      · rw [if_neg z2] at h
        by_cases z3 : b ∈ A ∨ b ∈ B
        · rw [if_pos z3] at h; cases h
        · rw [if_neg z3] at h
          exact ⟨(S.own b k h).1, fun y => (S.own b k h).2.1 (pre b y), .inl ⟨k, h⟩⟩
  · rcases set_get h with ⟨rfl, e⟩ | ⟨ne, h⟩
    · cases e
      refine .inr ⟨v, A', es, rw', n2, fun a ha => ?_⟩
      show (if a ∈ Ar then some (ε.length + τ.length) else if a ∈ A' then some j else if a ∈ A ∨ a ∈ B then none else φ a) = some j
      rw [if_neg (fun z => n3 a z a ha rfl), if_pos ha]
    · obtain ⟨hj, _⟩ := List.getElem?_eq_some_iff.mp h
      exact .inl ⟨⟨ne, by omega⟩, h, rfl⟩
  · rcases getE_app h with h | ⟨rfl, e⟩
    · obtain ⟨hj, _⟩ := List.getElem?_eq_some_iff.mp h
      exact .inl ⟨⟨by omega, by omega⟩, h⟩
    · cases e
      refine .inr ⟨Ar, rr, n1, fun a ha => ?_⟩
      show (if a ∈ Ar then some (ε.length + τ.length) else if a ∈ A' then some i else if a ∈ A ∨ a ∈ B then none else φ a) = _
      rw [if_pos ha]
theorem Sta.mutT {ws : List W} {vs : List V} (S : Sta K E F φ ε σ H (τ ++ [(w, v)] ++ ws.zip vs)) (hA : ∀ a ∈ A, φ a = some (ε.length + τ.length)) (hB : ∀ a ∈ B, ∃ k, φ a = some k ∧ ε.length + τ.length < k)
    (off : ∀ b, b ∉ A → H' b = H b) (pre : ∀ b, H' b = none → H b = none) (rr : Rep K F H' res u Ar) (rw' : Rep K F H' w' v A') (nd : (Ar ++ A').Nodup) (sub : ∀ a ∈ Ar ++ A', a ∈ A ∨ a ∈ B) :
    ∃ φ', Sta K E F φ' ε σ H' (τ ++ [(res, u)] ++ [(w', v)]) := by
  obtain ⟨n1, n2, n3⟩ := List.nodup_append.mp nd
  have S0 : Sta K E F φ ε σ H τ := by
    rw [List.append_assoc] at S
    exact Sta.drop S
  have none_of : ∀ a k, φ a = some k → k < ε.length + τ.length → a ∉ A ∧ a ∉ B := fun a k h h2 => ⟨fun z => by
    have q := hA a z
    rw [h] at q
    have q := Option.some.inj q
    omega, fun z => by
    obtain ⟨j, q, hj⟩ := hB a z
    rw [h] at q
    cases q
    omega⟩
  have nF : ∀ a, a ∈ A ∨ a ∈ B → F a = none ∧ H a ≠ none ∧ ∃ j, φ a = some j := fun a h => by
    rcases h with h | h
    · exact ⟨(S.own a _ (hA a h)).1, (S.own a _ (hA a h)).2.1, _, hA a h⟩
    · obtain ⟨j, q, _⟩ := hB a h
      exact ⟨(S.own a j q).1, (S.own a j q).2.1, j, q⟩
  refine ⟨fun a => if a ∈ Ar then some (ε.length + τ.length) else if a ∈ A' then some (ε.length + (τ.length + 1)) else if a ∈ A ∨ a ∈ B then none else φ a, S0.step (R := fun k => k < ε.length + τ.length) ⟨Same.refl _, fun b h => .inl h, fun b o h => ?_, pre, fun b o h hφ => ?_, fun a k h hk => ⟨?_, ?_⟩, fun b k h => ?_⟩ S.len rfl S.fix (fun j w0 h => ?_) (fun j w0 v0 h => ?_)⟩
  · rw [off b (fun z => by rw [(nF b (.inl z)).1] at h; cases h)]; exact S.sub b o h
  · rw [off b (fun z => by rw [hA b z] at hφ; cases hφ)]; exact h
  · exact off a (none_of a k h hk).1
  · have z := none_of a k h hk
    show (if a ∈ Ar then some (ε.length + τ.length) else if a ∈ A' then some (ε.length + (τ.length + 1)) else if a ∈ A ∨ a ∈ B then none else φ a) = some k
    rw [if_neg (fun y => (sub a (List.mem_append_left _ y)).elim z.1 z.2), if_neg (fun y => (sub a (List.mem_append_right _ y)).elim z.1 z.2), if_neg (fun y => y.elim z.1 z.2)]
    exact h
  · have h : (if b ∈ Ar then some (ε.length + τ.length) else if b ∈ A' then some (ε.length + (τ.length + 1)) else if b ∈ A ∨ b ∈ B then none else φ b) = some k := h
    have fin : b ∈ A ∨ b ∈ B → F b = none ∧ H' b ≠ none ∧ ((∃ j, φ b = some j) ∨ H b = none) := fun z => ⟨(nF b z).1, fun y => (nF b z).2.1 (pre b y), .inl (nF b z).2.2⟩
    by_cases z1 : b ∈ Ar
    · exact fin (sub b (List.mem_append_left _ z1))
    · rw [if_neg z1] at h
      by_cases z2 : b ∈ A'
      · exact fin (sub b (List.mem_append_right _ z2))
      · rw [if_neg z2] at h
        by_cases z3 : b ∈ A ∨ b ∈ B
        · rw [if_pos z3] at h; cases h
        · rw [if_neg z3] at h
          exact ⟨(S.own b k h).1, fun y => (S.own b k h).2.1 (pre b y), .inl ⟨k, h⟩⟩
  · obtain ⟨hj, _⟩ := List.getElem?_eq_some_iff.mp h
    exact .inl ⟨by show j < ε.length + τ.length; omega, h, rfl⟩
  · rcases getE_app h with h | ⟨e1, e⟩
    · rcases getE_app h with h | ⟨e1, e⟩
      · obtain ⟨hj, _⟩ := List.getElem?_eq_some_iff.mp h
        exact .inl ⟨by show ε.length + j < ε.length + τ.length; omega, h⟩
      · subst e1
        cases e
        refine .inr ⟨Ar, rr, n1, fun a ha => ?_⟩
        show (if a ∈ Ar then some (ε.length + τ.length) else if a ∈ A' then some (ε.length + (τ.length + 1)) else if a ∈ A ∨ a ∈ B then none else φ a) = _
        rw [if_pos ha]
    · rw [List.length_append] at e1
      have e1 : j = τ.length + 1 := e1
      subst e1
      cases e
      refine .inr ⟨A', rw', n2, fun a ha => ?_⟩
      show (if a ∈ Ar then some (ε.length + τ.length) else if a ∈ A' then some (ε.length + (τ.length + 1)) else if a ∈ A ∨ a ∈ B then none else φ a) = _
      rw [if_neg (fun z => n3 a z a ha rfl), if_pos ha]
end

structure MuA (X : Cx) (id : String) (R : W → List W → W → W → Prop) : Prop where
  ex : ∃ r, MtR X id r ∧ ∀ F H w ws w' res v vs A B (QH : VK), Same F H → Rep X.K F H w v A → Reps X.K F H ws vs B → (A ++ B).Nodup → (∀ a ∈ A ++ B, F a = none ∧ H a ≠ none) → R w ws w' res →
    (∀ rv H' Ar A', (∀ b, b ∉ A → H' b = H b) → (∀ b, H' b = none → H b = none) → Rep X.K F H' res rv Ar → Rep X.K F H' w' v A' → (Ar ++ A').Nodup → (∀ a ∈ Ar ++ A', a ∈ A ∨ a ∈ B) → QH rv H') → r v vs H QH
/-- a content's built-in type -/
def tyW : W → String → Prop
  | .lst _, T => T = "list"
  | .dk _, T => T = "dict"
  | .d (.str _), T => T = "str"
  | .d (.list _), T => T = "list"
  | _, _ => False
def tMut (T : String) (R : W → List W → W → W → Prop) (to : TEA) (t : TAA) : TEA := fun ε Q => to ε fun x ε1 => ∃ w0, cnt ε1 x = some w0 ∧ tyW w0 T ∧ t ε1 fun xs ε2 => ∃ w ws w' res ε3, cnt ε2 x = some w ∧ xs = ws.map EV.v ∧ R w ws w' res ∧ put x w' ε2 = some ε3 ∧ Q (.v res) ε3
section
variable {X : Cx} {o e : Expr} {es : List Expr} {to te : TEA} {t : TAA} {name : Str} {apos cpos pos : Pos} {T id : String} {R : W → List W → W → W → Prop}
theorem tyW_ok {K : PySem.W.Frag} {F H : Hp} {w : W} {v : V} {A : List Addr} (s : Same F H) (h : tyW w T) (r : Rep K F H w v A) : tyV K T v H := by
  cases w with
  | lst ws =>
    rw [rep_lst] at r
    obtain ⟨a, vs, B, rfl, _, q, _⟩ := r
    exact .inl ⟨h, vs, SqL.of q⟩
  | dk ws =>
    rw [rep_dk] at r
    obtain ⟨a, vs, B, rfl, _, q, _⟩ := r
    exact .inr (.inr (.inl ⟨h, .inl ⟨vs, q⟩⟩))
  | v x => exact h.elim
  | ins C fs => exact h.elim
  | tup fs => exact h.elim
  | d x =>
    rw [rep_d] at r
    obtain ⟨r, _⟩ := r
    cases x with
    | str z => rw [dq_str] at r; rw [r]; exact h
    | list z =>
      rw [dq_list] at r
      obtain ⟨a, vs, rfl, q, _⟩ := r
      exact .inl ⟨h, vs, s.seq q⟩
    | none => exact h.elim
    | bool _ => exact h.elim
    | int _ => exact h.elim
    | tuple _ => exact h.elim
    | dict _ => exact h.elim
theorem mut_core {r : V → List V → Hp → VK → Prop} (q : ∀ F H w ws w' res v vs A B (QH : VK), Same F H → Rep X.K F H w v A → Reps X.K F H ws vs B → (A ++ B).Nodup → (∀ a ∈ A ++ B, F a = none ∧ H a ≠ none) → R w ws w' res →
      (∀ rv H' Ar A', (∀ b, b ∉ A → H' b = H b) → (∀ b, H' b = none → H b = none) → Rep X.K F H' res rv Ar → Rep X.K F H' w' v A' → (Ar ++ A').Nodup → (∀ a ∈ Ar ++ A', a ∈ A ∨ a ∈ B) → QH rv H') → r v vs H QH)
    {E : Ent} {F φ ε2 σ H τ} {x : EV} {v : V} {xs : List EV} {vs : List V} {Q : EV → Env → Prop} {QH : VK} (S : Sta X.K E F φ ε2 σ H (evTs (evT x v τ) xs vs)) (ok : evOk x σ v) (oks : evOks σ xs vs)
    (h : ∃ w ws w' res ε3, cnt ε2 x = some w ∧ xs = ws.map EV.v ∧ R w ws w' res ∧ put x w' ε2 = some ε3 ∧ Q (.v res) ε3)
    (k : ∀ rv v F' φ' ε' H', Sta X.K E F' φ' ε' σ H' (evT rv v τ) → evOk rv σ v → Q rv ε' → QH v H') : r v vs H QH := by
  obtain ⟨w, ws, w', res, ε3, c, rfl, hr, hp, hq⟩ := h
  obtain ⟨e, l⟩ := evTs_v (τ := evT x v τ) oks
  rw [e] at S
  obtain ⟨B, rB, nB, hB⟩ := S.gather l
  cases x with
  | sl i =>
    have S : Sta X.K E F φ ε2 σ H (τ ++ ws.zip vs) := S
    have ok : σ[i]? = some (some v) := ok
    have c := join_some c
    obtain ⟨v', A, e1, rA, nA, hA⟩ := S.slot i w c
    rw [ok] at e1
    cases e1
    obtain ⟨hi, _⟩ := List.getElem?_eq_some_iff.mp c
    have sep : ∀ a ∈ A, ∀ b ∈ B, a ≠ b := fun a ha b hb z => by
      subst z
      obtain ⟨j, q1, q2⟩ := hB a hb
      rw [hA a ha] at q1
      cases q1
      have q2 : ε2.length + τ.length ≤ i := q2
      omega
    refine q F H w ws w' res v vs A B QH S.sub rA rB (List.nodup_append.mpr ⟨nA, nB, sep⟩) (fun a ha => ?_) hr fun rv H' Ar A' off pre rr rw' nd sub => ?_
    · rcases List.mem_append.mp ha with z | z
      · exact ⟨(S.own a i (hA a z)).1, (S.own a i (hA a z)).2.1⟩
      · obtain ⟨j, q1, _⟩ := hB a z
        exact ⟨(S.own a j q1).1, (S.own a j q1).2.1⟩
    · cases hp
      obtain ⟨φ', S'⟩ := S.mutS hi ok hA hB off pre rr rw' nd sub
      exact k (.v res) rv F φ' _ H' S' True.intro hq
  | v w0 =>
    cases c
    have S : Sta X.K E F φ ε2 σ H (τ ++ [(w, v)] ++ ws.zip vs) := S
    obtain ⟨A, rA, nA, hA⟩ := S.tmp τ.length w v (by rw [List.getElem?_append_left (by simp)]; exact getE_last)
    have hB : ∀ a ∈ B, ∃ k, φ a = some k ∧ ε2.length + τ.length < k := fun a ha => by
      obtain ⟨j, q1, q2⟩ := hB a ha
      have q2 : ε2.length + (τ ++ [(w, v)]).length ≤ j := q2
      rw [List.length_append] at q2
      have q2 : ε2.length + (τ.length + 1) ≤ j := q2
      exact ⟨j, q1, by omega⟩
    have sep : ∀ a ∈ A, ∀ b ∈ B, a ≠ b := fun a ha b hb z => by
      subst z
      obtain ⟨j, q1, q2⟩ := hB a hb
      rw [hA a ha] at q1
      cases q1
      omega
    refine q F H w ws w' res v vs A B QH S.sub rA rB (List.nodup_append.mpr ⟨nA, nB, sep⟩) (fun a ha => ?_) hr fun rv H' Ar A' off pre rr rw' nd sub => ?_
    · rcases List.mem_append.mp ha with z | z
      · exact ⟨(S.own a _ (hA a z)).1, (S.own a _ (hA a z)).2.1⟩
      · obtain ⟨j, q1, _⟩ := hB a z
        exact ⟨(S.own a j q1).1, (S.own a j q1).2.1⟩
    · cases hp
      obtain ⟨φ', S'⟩ := S.mutT hA hB off pre rr rw' nd sub
      exact k (.v res) rv F φ' _ H' (Sta.drop (τ := τ ++ [(res, rv)]) S') True.intro hq
  | fl i p u w0 =>
    cases c
    have S : Sta X.K E F φ ε2 σ H (τ ++ [(w, v)] ++ ws.zip vs) := S
    obtain ⟨A, rA, nA, hA⟩ := S.tmp τ.length w v (by rw [List.getElem?_append_left (by simp)]; exact getE_last)
    have hB : ∀ a ∈ B, ∃ k, φ a = some k ∧ ε2.length + τ.length < k := fun a ha => by
      obtain ⟨j, q1, q2⟩ := hB a ha
      have q2 : ε2.length + (τ ++ [(w, v)]).length ≤ j := q2
      rw [List.length_append] at q2
      have q2 : ε2.length + (τ.length + 1) ≤ j := q2
      exact ⟨j, q1, by omega⟩
    have sep : ∀ a ∈ A, ∀ b ∈ B, a ≠ b := fun a ha b hb z => by
      subst z
      obtain ⟨j, q1, q2⟩ := hB a hb
      rw [hA a ha] at q1
      cases q1
      omega
    refine q F H w ws w' res v vs A B QH S.sub rA rB (List.nodup_append.mpr ⟨nA, nB, sep⟩) (fun a ha => ?_) hr fun rv H' Ar A' off pre rr rw' nd sub => ?_
    · rcases List.mem_append.mp ha with z | z
      · exact ⟨(S.own a _ (hA a z)).1, (S.own a _ (hA a z)).2.1⟩
      · obtain ⟨j, q1, _⟩ := hB a z
        exact ⟨(S.own a j q1).1, (S.own a j q1).2.1⟩
    · obtain ⟨φ', S'⟩ := S.mutT hA hB off pre rr rw' nd sub
      obtain ⟨φ2, S2⟩ := Sta.back (rv := .fl i p u w') (τ := τ ++ [(res, rv)]) S' ok hp
      exact k (.v res) rv F φ2 _ H' S2 True.intro hq
theorem ae_mut (pa : PlainAttrs T) (slot : Slot T name id) (hty : typeOf (.builtin id) = pure (.type "method_descriptor")) (hm : MuA X id R) (ho : AE X o to) (ha : AA X (e :: es) t)
    (hbase : attributeBase o name X.env (eval o X.env) = eval o X.env := by rfl)
    (hfew : ((backTo cpos (starEach (e :: es) X.env)).all (fun x => !x.1) && (backToKw cpos (keywordEach [] X.env)).all (fun x => x.1.isSome)
      && decide ((e :: es).length + ([] : List Keyword).length + (if ([] : List Keyword).isEmpty then 0 else 1) < 30)) = true := by rfl)
    (hline : (apos.endLine == cpos.line) = true := by rfl) (hs : starEach (e :: es) X.env = (false, eval e X.env) :: starEach es X.env := by rfl) (hplain : (backTo cpos (starEach es X.env)).any (·.1) = false := by rfl) :
    AE X (.Call (.Attribute o name apos) (e :: es) [] cpos) (tMut T R to t) := by
  obtain ⟨r, pm, qm⟩ := hm.ex
  obtain ⟨_, po, qo⟩ := ho.ex
  obtain ⟨_, pa', qa⟩ := ha.ex
  refine ⟨_, pe_bm pa slot hty pm po pa' hbase hfew hline hs hplain, fun E F φ ε σ H τ Q QH S h k => ?_⟩
  refine qo E F φ ε σ H τ _ _ S h fun x v F1 φ1 ε1 H1 S1 ok1 h1 => ?_
  obtain ⟨w0, c0, ty, h1⟩ := h1
  obtain ⟨A, rA, _, _⟩ := S1.view ok1 c0
  refine ⟨tyW_ok S1.sub ty rA, ?_⟩
  exact qa E F1 φ1 ε1 σ H1 _ _ _ S1 h1 fun xs vs F2 φ2 ε2 H2 S2 ok2 h2 => mut_core qm S2 ok1 ok2 h2 k
theorem ae_mut0 (pa : PlainAttrs T) (slot : Slot T name id) (hty : typeOf (.builtin id) = pure (.type "method_descriptor")) (hm : MuA X id R) (ho : AE X o to)
    (hbase : attributeBase o name X.env (eval o X.env) = eval o X.env := by rfl) (hline : (apos.endLine == cpos.line) = true := by rfl) : AE X (.Call (.Attribute o name apos) [] [] cpos) (tMut T R to tNil) := by
  obtain ⟨r, pm, qm⟩ := hm.ex
  obtain ⟨_, po, qo⟩ := ho.ex
  refine ⟨_, pe_bm0 pa slot hty pm po hbase hline, fun E F φ ε σ H τ Q QH S h k => ?_⟩
  refine qo E F φ ε σ H τ _ _ S h fun x v F1 φ1 ε1 H1 S1 ok1 h1 => ?_
  obtain ⟨w0, c0, ty, h1⟩ := h1
  obtain ⟨A, rA, _, _⟩ := S1.view ok1 c0
  exact ⟨tyW_ok S1.sub ty rA, mut_core (xs := []) (vs := []) qm S1 ok1 True.intro h1 k⟩

/-! ### lists -/
theorem Reps.snoc {K : PySem.W.Frag} {F H : Hp} {w : W} {v : V} {B : List Addr} (h : Rep K F H w v B) : ∀ {ws : List W} {vs : List V} {A : List Addr}, Reps K F H ws vs A → Reps K F H (ws ++ [w]) (vs ++ [v]) (A ++ B)
  | [], vs, A, r => by
    rw [reps_nil] at r
    obtain ⟨rfl, rfl⟩ := r
    rw [List.nil_append, reps_cons]
    exact ⟨v, [], B, [], rfl, by simp, h, by rw [reps_nil]; exact ⟨rfl, rfl⟩⟩
  | w0 :: ws, vs, A, r => by
    rw [reps_cons] at r
    obtain ⟨v0, r', B0, C, rfl, rfl, r1, r2⟩ := r
    rw [List.cons_append, reps_cons]
    exact ⟨v0, r' ++ [v], B0, C ++ B, rfl, by rw [List.append_assoc], r1, Reps.snoc h r2⟩
theorem reps_one {K : PySem.W.Frag} {F H : Hp} {w : W} {vs : List V} {A : List Addr} (r : Reps K F H [w] vs A) : ∃ v, vs = [v] ∧ Rep K F H w v A := by
  rw [reps_cons] at r
  obtain ⟨v, r', B, C, rfl, rfl, r1, r2⟩ := r
  rw [reps_nil] at r2
  obtain ⟨rfl, rfl⟩ := r2
  exact ⟨v, rfl, by simpa using r1⟩
theorem reps_two {K : PySem.W.Frag} {F H : Hp} {w u : W} {vs : List V} {A : List Addr} (r : Reps K F H [w, u] vs A) : ∃ v z B C, vs = [v, z] ∧ A = B ++ C ∧ Rep K F H w v B ∧ Rep K F H u z C := by
  rw [reps_cons] at r
  obtain ⟨v, r', B, C, rfl, rfl, r1, r2⟩ := r
  obtain ⟨z, rfl, r3⟩ := reps_one r2
  exact ⟨v, z, B, C, rfl, rfl, r1, r3⟩
inductive AppR : W → List W → W → W → Prop
  | D {ds : List PyData} {d : PyData} (h : ds.length < sizeLine) : AppR (.lst (ds.map W.d)) [.d d] (.lst ((ds ++ [d]).map W.d)) (.d .none)
  | G {ws : List W} {w : W} (h : ws.length < sizeLine) : AppR (.lst ws) [w] (.lst (ws ++ [w])) (.d .none)
theorem mu_append : MuA X "list.append" AppR := by
  refine ⟨_, mt_append, fun F H w ws w' res v vs A B QH s rA rB nd hn hr k => ?_⟩
  have gen : ∀ {ws0 : List W} {w1 : W}, w = .lst ws0 → ws = [w1] → ws0.length < sizeLine → w' = .lst (ws0 ++ [w1]) → res = .d .none → rAppend v vs H QH := by
    intro ws0 w1 e1 e2 hl e3 e4
    subst e1 e2 e3 e4
    rw [rep_lst] at rA
    obtain ⟨a, us, C, rfl, rfl, ha, rC⟩ := rA
    obtain ⟨y, rfl, rY⟩ := reps_one rB
    have na : ∀ b ∈ C ++ B, b ≠ a := fun b hb e => by
      subst e
      exact (List.nodup_cons.mp (by simpa using nd)).1 hb
    refine ⟨a, us, y, rfl, rfl, ha, by rw [rC.len]; exact hl, k .non _ [] (a :: (C ++ B)) (fun b hb => upd_ne (fun e => hb (by rw [e]; exact List.mem_cons_self))) (fun b h => ?_) (by rw [rep_d, dq_none]; exact ⟨rfl, rfl⟩) ?_ (by simpa using nd) fun b hb => ?_⟩
    · by_cases z : b = a
      · rw [z, upd_same] at h; cases h
      · rw [upd_ne z] at h; exact h
    · rw [rep_lst]
      refine ⟨a, us ++ [y], C ++ B, rfl, rfl, upd_same, Reps.snoc (Rep.keep (Same.refl _) _ _ _ (fun b hb => upd_ne (na b (List.mem_append_right _ hb))) rY) (Reps.keep (Same.refl _) _ _ _ (fun b hb => upd_ne (na b (List.mem_append_left _ hb))) rC)⟩
    · simp at hb ⊢
      rcases hb with z | z | z
      · exact .inl (.inl z)
      · exact .inl (.inr z)
      · exact .inr z
  cases hr with
  | D h => exact gen rfl rfl (by simpa using h) (by simp) rfl
  | G h => exact gen rfl rfl h rfl rfl
/-- a data list that a method rewrites: one object -/
theorem one_list {r : V → List V → Hp → VK → Prop} {F H : Hp} {ds es : List PyData} {v : V} {vs : List V} {A B : List Addr} {res : W} {QH : VK} (rA : Rep X.K F H (.lst (ds.map W.d)) v A) (hn : ∀ a ∈ A ++ B, F a = none ∧ H a ≠ none)
    (k : ∀ rv H' Ar A', (∀ b, b ∉ A → H' b = H b) → (∀ b, H' b = none → H b = none) → Rep X.K F H' res rv Ar → Rep X.K F H' (.lst (es.map W.d)) v A' → (Ar ++ A').Nodup → (∀ a ∈ Ar ++ A', a ∈ A ∨ a ∈ B) → QH rv H')
    (h : ∀ a us, v = .ref a → H a = some (.lst us) → Dqs X.K F ds us → (∀ rv us', Dqs X.K F es us' → (∃ x, res = .d x ∧ Dq X.K F x rv) → QH rv (upd H a (.lst us'))) → r v vs H QH) : r v vs H QH := by
  rw [rep_lst] at rA
  obtain ⟨a, us, C, rfl, rfl, ha, rC⟩ := rA
  obtain ⟨d, rfl⟩ := rC.toD
  refine h a us rfl ha d fun rv us' d' ⟨x, e, dx⟩ => ?_
  subst e
  refine k rv _ [] [a] (fun b hb => upd_ne (fun e => hb (by rw [e]; exact List.mem_cons_self))) (fun b h => ?_) (by rw [rep_d]; exact ⟨dx, rfl⟩) ?_ (by simp) fun b hb => .inl (by simpa using hb)
  · by_cases z : b = a
    · rw [z, upd_same] at h; cases h
    · rw [upd_ne z] at h; exact h
  · rw [rep_lst]
    exact ⟨a, us', [], rfl, rfl, upd_same, Reps.ofD d'⟩
theorem Dqs.erase {K : PySem.W.Frag} {F : Hp} : ∀ {ds : List PyData} {vs : List V} (i : Nat), Dqs K F ds vs → Dqs K F (ds.eraseIdx i) (vs.eraseIdx i)
  | [], _, i, h => by rw [dqs_nil] at h; rw [h, List.eraseIdx_nil, List.eraseIdx_nil, dqs_nil]
  | d :: ds, _, 0, h => by
    rw [dqs_cons] at h
    obtain ⟨v, r, rfl, p, q⟩ := h
    exact q
  | d :: ds, _, i + 1, h => by
    rw [dqs_cons] at h
    obtain ⟨v, r, rfl, p, q⟩ := h
    rw [List.eraseIdx_cons_succ, List.eraseIdx_cons_succ, dqs_cons]
    exact ⟨v, _, rfl, p, Dqs.erase i q⟩
inductive PopAtR : W → List W → W → W → Prop
  | mk {ds : List PyData} {i : Int} {j : Nat} {d : PyData} (h1 : -(2 ^ 63) ≤ i) (h2 : i < 2 ^ 63) (hj : seqIndex? i ds.length = some j) (hd : ds[j]? = some d) : PopAtR (.lst (ds.map W.d)) [.d (.int i)] (.lst ((ds.eraseIdx j).map W.d)) (.d d)
theorem mu_popAt : MuA X "list.pop" PopAtR := by
  refine ⟨_, mt_popAt, fun F H w ws w' res v vs A B QH s rA rB nd hn hr k => ?_⟩
  cases hr with
  | @mk ds i j d h1 h2 hj hd =>
    obtain ⟨y, rfl, rY⟩ := reps_one rB
    rw [rep_d, dq_int] at rY
    refine one_list rA hn k fun a us e ha dq kk => ?_
    obtain ⟨x, e1, e2⟩ := dq.get hd
    exact ⟨a, us, i, j, x, e, by rw [rY.1], ha, h1, h2, by rw [dq.len]; exact hj, e1, kk x _ (dq.erase j) ⟨d, rfl, e2⟩⟩
inductive Pop0R : W → List W → W → W → Prop
  | mk {ds : List PyData} {d : PyData} : Pop0R (.lst ((d :: ds).map W.d)) [.d (.int 0)] (.lst (ds.map W.d)) (.d d)
theorem mu_pop0 : MuA X "list.pop" Pop0R := by
  obtain ⟨r, p, q⟩ := (mu_popAt (X := X)).ex
  refine ⟨r, p, fun F H w ws w' res v vs A B QH s rA rB nd hn hr k => ?_⟩
  cases hr with
  | @mk ds d => exact q F H _ _ _ _ v vs A B QH s rA rB nd hn (PopAtR.mk (j := 0) (by decide) (by decide) (by
      rw [PySem.StrLaws.seqIndex_nonneg (by decide) (by simp)]; rfl) rfl) k
inductive PopR : W → List W → W → W → Prop
  | mk {ds : List PyData} {d : PyData} : PopR (.lst ((ds ++ [d]).map W.d)) [] (.lst (ds.map W.d)) (.d d)
theorem mu_pop : MuA X "list.pop" PopR := by
  refine ⟨_, mt_pop, fun F H w ws w' res v vs A B QH s rA rB nd hn hr k => ?_⟩
  cases hr with
  | @mk ds d =>
    rw [reps_nil] at rB
    obtain ⟨rfl, rfl⟩ := rB
    refine one_list rA hn k fun a us e ha dq kk => ?_
    have hl := dq.len
    rw [List.length_append] at hl
    have hl : us.length = ds.length + 1 := hl
    obtain ⟨x, e1, e2⟩ := dq.get (i := ds.length) (d := d) (by simp)
    have dq' : Dqs X.K F ds us.dropLast := by
      have := dq.take ds.length
      rw [List.take_left] at this
      rw [List.dropLast_eq_take, hl]
      exact this
    exact ⟨a, us, x, e, rfl, ha, by rw [hl]; exact e1, kk x _ dq' ⟨d, rfl, e2⟩⟩
inductive RevR : W → List W → W → W → Prop
  | mk {ds : List PyData} : RevR (.lst (ds.map W.d)) [] (.lst (ds.reverse.map W.d)) (.d .none)
theorem Dqs.rev {K : PySem.W.Frag} {F : Hp} : ∀ {ds : List PyData} {vs : List V}, Dqs K F ds vs → Dqs K F ds.reverse vs.reverse
  | [], _, h => by rw [dqs_nil] at h; rw [h, List.reverse_nil, List.reverse_nil, dqs_nil]
  | d :: ds, _, h => by
    rw [dqs_cons] at h
    obtain ⟨v, r, rfl, p, q⟩ := h
    rw [List.reverse_cons, List.reverse_cons]
    exact Dqs.append (Dqs.rev q) (by rw [dqs_cons]; exact ⟨v, [], rfl, p, by rw [dqs_nil]⟩)
theorem mu_reverse : MuA X "list.reverse" RevR := by
  refine ⟨_, mt_reverse, fun F H w ws w' res v vs A B QH s rA rB nd hn hr k => ?_⟩
  cases hr with
  | mk =>
    rw [reps_nil] at rB
    obtain ⟨rfl, rfl⟩ := rB
    exact one_list rA hn k fun a us e ha dq kk => ⟨a, us, e, rfl, ha, kk .non _ dq.rev ⟨.none, rfl, by rw [dq_none]⟩⟩
inductive ExtR : W → List W → W → W → Prop
  | mk {ds es : List PyData} (h : ds.length + es.length ≤ sizeLine) : ExtR (.lst (ds.map W.d)) [.lst (es.map W.d)] (.lst ((ds ++ es).map W.d)) (.d .none)
theorem mu_extend : MuA X "list.extend" ExtR := by
  refine ⟨_, mt_extend, fun F H w ws w' res v vs A B QH s rA rB nd hn hr k => ?_⟩
  cases hr with
  | @mk ds es h =>
    obtain ⟨y, rfl, rY⟩ := reps_one rB
    rw [rep_lst] at rY
    obtain ⟨b, zs, C, rfl, _, hb, rC⟩ := rY
    obtain ⟨d2, rfl⟩ := rC.toD
    exact one_list rA hn k fun a us e ha dq kk => ⟨a, b, us, zs, e, rfl, ha, hb, by rw [dq.len, d2.len]; exact h, kk .non _ (dq.append d2) ⟨.none, rfl, by rw [dq_none]⟩⟩
end
end Ab

namespace Ab
open PySem PySem.Spec PyProof.Rows L2

/-! ## dicts of data -/
section
variable {κ : Type} [DecidableEq κ]
def valD (ds : List (κ × PyData)) (k : κ) : Option PyData := (ds.find? fun q => decide (q.1 = k)).map (·.2)
def putD (ds : List (κ × PyData)) (k : κ) (d : PyData) : List (κ × PyData) :=
  if (ds.any fun q => decide (q.1 = k)) = true then ds.map (fun q => if q.1 = k then (q.1, d) else q) else ds ++ [(k, d)]
end
/-- a dict whose values are data -/
abbrev WD (ds : List (Key × PyData)) : W := .dk (ds.map fun q => (q.1, W.d q.2))
section
variable {K : PySem.W.Frag} {F H : Hp}
/-- pair by pair -/
def Dkv (K : PySem.W.Frag) (F : Hp) : List (Key × PyData) → List (Key × V) → Prop
  | [], us => us = []
  | (k, d) :: ds, us => ∃ v r, us = (k, v) :: r ∧ Dq K F d v ∧ Dkv K F ds r
theorem Repk.toD : ∀ {ds : List (Key × PyData)} {us : List (Key × V)} {A : List Addr}, Repk K F H (ds.map fun q => (q.1, W.d q.2)) us A → Dkv K F ds us ∧ A = []
  | [], us, A, r => by
    rw [List.map_nil, repk_nil] at r
    exact r
  | (k, d) :: ds, us, A, r => by
    rw [List.map_cons, repk_cons] at r
    obtain ⟨v, r', B, C, rfl, rfl, p, q⟩ := r
    rw [rep_d] at p
    obtain ⟨p, rfl⟩ := p
    obtain ⟨q2, rfl⟩ := Repk.toD q
    exact ⟨⟨v, r', rfl, p, q2⟩, rfl⟩
theorem Dkv.rep : ∀ {ds : List (Key × PyData)} {us : List (Key × V)}, Dkv K F ds us → Repk K F H (ds.map fun q => (q.1, W.d q.2)) us []
  | [], us, r => by
    rw [List.map_nil, repk_nil]
    exact ⟨r, rfl⟩
  | (k, d) :: ds, us, ⟨v, r', e, p, q⟩ => by
    rw [List.map_cons, repk_cons]
    exact ⟨v, r', [], [], e, rfl, by rw [rep_d]; exact ⟨p, rfl⟩, Dkv.rep q⟩
theorem Dkv.len : ∀ {ds : List (Key × PyData)} {us : List (Key × V)}, Dkv K F ds us → us.length = ds.length
  | [], us, r => by rw [show us = [] from r]; rfl
  | (k, d) :: ds, us, ⟨v, r', e, p, q⟩ => by rw [e, List.length_cons, List.length_cons, Dkv.len q]
theorem Dkv.val : ∀ {ds : List (Key × PyData)} {us : List (Key × V)} (k : Key), Dkv K F ds us → (valD ds k = none ∧ valV us k = none) ∨ ∃ d v, valD ds k = some d ∧ valV us k = some v ∧ Dq K F d v
  | [], us, k, r => by
    rw [show us = [] from r]
    exact .inl ⟨rfl, rfl⟩
  | (j, d) :: ds, us, k, ⟨v, r', e, p, q⟩ => by
    subst e
    by_cases h : j = k
    · exact .inr ⟨d, v, by simp [valD, List.find?_cons, h], by simp [valV, List.find?_cons, h], p⟩
    · have e1 : valD ((j, d) :: ds) k = valD ds k := by simp [valD, List.find?_cons, h]
      have e2 : valV ((j, v) :: r') k = valV r' k := by simp [valV, List.find?_cons, h]
      rw [e1, e2]
      exact Dkv.val k q
theorem Dkv.any : ∀ {ds : List (Key × PyData)} {us : List (Key × V)} (k : Key), Dkv K F ds us → (us.any fun q => decide (q.1 = k)) = (ds.any fun q => decide (q.1 = k))
  | [], us, k, r => by rw [show us = [] from r]; rfl
  | (j, d) :: ds, us, k, ⟨v, r', e, p, q⟩ => by
    subst e
    rw [List.any_cons, List.any_cons, Dkv.any k q]
theorem Dkv.map {k : Key} {d : PyData} {v : V} (h : Dq K F d v) : ∀ {ds : List (Key × PyData)} {us : List (Key × V)}, Dkv K F ds us → Dkv K F (ds.map fun q => if q.1 = k then (q.1, d) else q) (us.map fun q => if q.1 = k then (q.1, v) else q)
  | [], us, r => by rw [show us = [] from r]; rfl
  | (j, d0) :: ds, us, ⟨v0, r', e, p, q⟩ => by
    subst e
    rw [List.map_cons, List.map_cons]
    by_cases hj : j = k
    · rw [if_pos hj, if_pos hj]
      exact ⟨v, _, rfl, h, Dkv.map h q⟩
    · rw [if_neg hj, if_neg hj]
      exact ⟨v0, _, rfl, p, Dkv.map h q⟩
theorem Dkv.snoc {k : Key} {d : PyData} {v : V} (h : Dq K F d v) : ∀ {ds : List (Key × PyData)} {us : List (Key × V)}, Dkv K F ds us → Dkv K F (ds ++ [(k, d)]) (us ++ [(k, v)])
  | [], us, r => by
    rw [show us = [] from r]
    exact ⟨v, [], rfl, h, rfl⟩
  | (j, d0) :: ds, us, ⟨v0, r', e, p, q⟩ => by
    subst e
    exact ⟨v0, _, rfl, p, Dkv.snoc h q⟩
theorem Dkv.put {ds : List (Key × PyData)} {us : List (Key × V)} {k : Key} {d : PyData} {v : V} (h : Dq K F d v) (r : Dkv K F ds us) : Dkv K F (putD ds k d) (putK us k v) := by
  unfold putD putK
  rw [r.any k]
  split
  · exact r.map h
  · exact r.snoc h
theorem dq_key {k : Key} {v : V} (h : Dq K F (kD k) v) : v = kV k := by
  cases k with
  | inl i => rw [show kD (Sum.inl i) = .int i from rfl, dq_int] at h; exact h
  | inr x => rw [show kD (Sum.inr x) = .str x from rfl, dq_str] at h; exact h
end
section
variable {X : Cx} {o i e : Expr} {to ti te tf : TEA} {pos pos' : Pos}
theorem one_v {E : Ent} {F φ ε σ H τ} {x : PyData} {v : V} (S : Sta X.K E F φ ε σ H (evT (.v (.d x)) v τ)) : Dq X.K F x v ∧ Sta X.K E F φ ε σ H τ := by
  obtain ⟨A, r, _, _⟩ := S.view (rv := .v (.d x)) True.intro rfl
  rw [rep_d] at r
  exact ⟨r.1, Sta.drop (r := [(_, v)]) S⟩
def tDget (to ti : TEA) : TEA := fun ε Q => to ε fun x ε1 => ti ε1 fun y ε2 => ∃ ds k d ε3, cnt ε2 x = some (WD ds) ∧ y = .v (.d (kD k)) ∧ valD ds k = some d ∧ bck x ε2 = some ε3 ∧ Q (.v (.d d)) ε3
theorem ae_dget (hu : X.A.units + 1 < cLine) (ho : AE X o to) (hi : AE X i ti) (hs : NoSl i := by exact fun _ _ => rfl) : AE X (.Subscript o i pos) (tDget to ti) := by
  obtain ⟨_, po, qo⟩ := ho.ex
  obtain ⟨_, pi, qi⟩ := hi.ex
  refine ⟨_, pe_dget hu po pi hs, fun E F φ ε σ H τ Q QH S h k => ?_⟩
  refine qo E F φ ε σ H τ _ _ S h fun x v F1 φ1 ε1 H1 S1 ok1 h1 => ?_
  refine qi E F1 φ1 ε1 σ H1 _ _ _ S1 h1 fun y u F2 φ2 ε2 H2 S2 ok2 h2 => ?_
  obtain ⟨ds, key, d, ε3, c, rfl, hv, b, hq⟩ := h2
  obtain ⟨dy, S3⟩ := one_v S2
  obtain ⟨A, r, _, _⟩ := S3.view ok1 c
  obtain ⟨φ4, S4⟩ := S3.back ok1 b
  rw [rep_dk] at r
  obtain ⟨a, us, B, rfl, _, ha, rk⟩ := r
  obtain ⟨dk, _⟩ := rk.toD
  rcases dk.val key with ⟨e, _⟩ | ⟨d', v', e1, e2, dd⟩
  · rw [hv] at e; cases e
  · rw [hv] at e1
    cases e1
    rw [dq_key dy]
    obtain ⟨φ5, S5⟩ := S4.pushD dd
    exact ⟨a, v', rfl, by rw [← e2]; exact DGet.k ha, k (.v (.d d)) v' F2 φ5 ε3 H2 S5 True.intro hq⟩
/-- k in d, k not in d -/
def tDin (n : Bool) (ti to : TEA) : TEA := fun ε Q => ti ε fun y ε1 => to ε1 fun x ε2 => ∃ ds k ε3, y = .v (.d (kD k)) ∧ cnt ε2 x = some (WD ds) ∧ bck x ε2 = some ε3 ∧ Q (.v (.d (.bool (if n then !(valD ds k).isSome else (valD ds k).isSome)))) ε3
theorem din_core {n : Bool} {E : Ent} {F φ ε2 σ H τ} {x y : EV} {v u : V} {Q : EV → Env → Prop} {QH : VK} (S : Sta X.K E F φ ε2 σ H (evT x v (evT y u τ))) (okx : evOk x σ v)
    (h : ∃ ds k ε3, y = .v (.d (kD k)) ∧ cnt ε2 x = some (WD ds) ∧ bck x ε2 = some ε3 ∧ Q (.v (.d (.bool (if n then !(valD ds k).isSome else (valD ds k).isSome)))) ε3)
    (k : ∀ rv v F' φ' ε' H', Sta X.K E F' φ' ε' σ H' (evT rv v τ) → evOk rv σ v → Q rv ε' → QH v H') : ∃ a r, v = .ref a ∧ DGet H a u r ∧ QH (.bl (if n then !r.isSome else r.isSome)) H := by
  obtain ⟨ds, key, ε3, rfl, c, b, hq⟩ := h
  obtain ⟨A, r, _, _⟩ := S.view okx c
  obtain ⟨φ4, S4⟩ := S.back okx b
  obtain ⟨dy, S5⟩ := one_v S4
  rw [rep_dk] at r
  obtain ⟨a, us, B, rfl, _, ha, rk⟩ := r
  obtain ⟨dk, _⟩ := rk.toD
  rw [dq_key dy]
  have ei : (valV us key).isSome = (valD ds key).isSome := by
    rcases dk.val key with ⟨e1, e2⟩ | ⟨d', v', e1, e2, dd⟩
    · rw [e1, e2]; rfl
    · rw [e1, e2]; rfl
  obtain ⟨φ6, S6⟩ := S5.pushD (x := .bool (if n then !(valD ds key).isSome else (valD ds key).isSome)) (v := .bl (if n then !(valD ds key).isSome else (valD ds key).isSome)) (by rw [dq_bool])
  exact ⟨a, _, rfl, DGet.k ha, by rw [ei]; exact k (.v (.d (.bool (if n then !(valD ds key).isSome else (valD ds key).isSome)))) _ F φ6 ε3 H S6 True.intro hq⟩
theorem ae_din (hu : X.A.units + 1 < cLine) (hi : AE X i ti) (ho : AE X o to) (hm : behindInMarks .In o = false := by with_unfolding_all rfl) : AE X (.Compare i [.In] [o] pos) (tDin false ti to) := by
  obtain ⟨_, po, qo⟩ := ho.ex
  obtain ⟨_, pi, qi⟩ := hi.ex
  refine ⟨_, pe_cmp (pc_din hu pi po) hm, fun E F φ ε σ H τ Q QH S h k => ?_⟩
  refine qi E F φ ε σ H τ _ _ S h fun y u F1 φ1 ε1 H1 S1 ok1 h1 => ?_
  refine qo E F1 φ1 ε1 σ H1 _ _ _ S1 h1 fun x v F2 φ2 ε2 H2 S2 ok2 h2 => ?_
  exact din_core (n := false) S2 ok2 h2 k
theorem ae_dnotin (hu : X.A.units + 1 < cLine) (hi : AE X i ti) (ho : AE X o to) (hm : behindInMarks .NotIn o = false := by with_unfolding_all rfl) : AE X (.Compare i [.NotIn] [o] pos) (tDin true ti to) := by
  obtain ⟨_, po, qo⟩ := ho.ex
  obtain ⟨_, pi, qi⟩ := hi.ex
  refine ⟨_, pe_cmp (pc_dnotin hu pi po) hm, fun E F φ ε σ H τ Q QH S h k => ?_⟩
  refine qi E F φ ε σ H τ _ _ S h fun y u F1 φ1 ε1 H1 S1 ok1 h1 => ?_
  refine qo E F1 φ1 ε1 σ H1 _ _ _ S1 h1 fun x v F2 φ2 ε2 H2 S2 ok2 h2 => ?_
  exact din_core (n := true) S2 ok2 h2 k
theorem at_din (hu : X.A.units + 1 < cLine) (hi : AE X i ti) (ho : AE X o to) (hm : behindInMarks .In o = false := by with_unfolding_all rfl) : AT X (.Compare i [.In] [o] pos) (tBl (tDin false ti to)) := by
  obtain ⟨_, po, qo⟩ := ho.ex
  obtain ⟨_, pi, qi⟩ := hi.ex
  refine ⟨_, pt_cmp (pc_din hu pi po) hm, fun E F φ ε σ H τ Q QH S h k => bl_core (t := tDin false ti to) (fun E F φ ε σ H τ Q QH S h k => ?_) S h k⟩
  refine qi E F φ ε σ H τ _ _ S h fun y u F1 φ1 ε1 H1 S1 ok1 h1 => ?_
  refine qo E F1 φ1 ε1 σ H1 _ _ _ S1 h1 fun x v F2 φ2 ε2 H2 S2 ok2 h2 => ?_
  exact din_core (n := false) S2 ok2 h2 k
theorem at_dnotin (hu : X.A.units + 1 < cLine) (hi : AE X i ti) (ho : AE X o to) (hm : behindInMarks .NotIn o = false := by with_unfolding_all rfl) : AT X (.Compare i [.NotIn] [o] pos) (tBl (tDin true ti to)) := by
  obtain ⟨_, po, qo⟩ := ho.ex
  obtain ⟨_, pi, qi⟩ := hi.ex
  refine ⟨_, pt_cmp (pc_dnotin hu pi po) hm, fun E F φ ε σ H τ Q QH S h k => bl_core (t := tDin true ti to) (fun E F φ ε σ H τ Q QH S h k => ?_) S h k⟩
  refine qi E F φ ε σ H τ _ _ S h fun y u F1 φ1 ε1 H1 S1 ok1 h1 => ?_
  refine qo E F1 φ1 ε1 σ H1 _ _ _ S1 h1 fun x v F2 φ2 ε2 H2 S2 ok2 h2 => ?_
  exact din_core (n := true) S2 ok2 h2 k
/-- d.get(k), d.get(k, x) -/
def tDget2 (to ti tf : TEA) : TEA := fun ε Q => to ε fun x ε1 => ∃ ds0, cnt ε1 x = some (WD ds0) ∧ ti ε1 fun y ε2 => tf ε2 fun z ε3 => ∃ ds k dz ε4, cnt ε3 x = some (WD ds) ∧ y = .v (.d (kD k)) ∧ z = .v (.d dz) ∧ bck x ε3 = some ε4 ∧ Q (.v (.d ((valD ds k).getD dz))) ε4
theorem ae_dget2 {apos cpos : Pos} (hu : X.A.units + 1 < cLine) (ho : AE X o to) (hi : AE X i ti) (hf : AE X e tf) (m : M2 X o "get" apos i e cpos := by exact ⟨rfl, rfl, rfl, rfl⟩) : AE X (.Call (.Attribute o "get" apos) [i, e] [] cpos) (tDget2 to ti tf) := by
  obtain ⟨_, po, qo⟩ := ho.ex
  obtain ⟨_, pi, qi⟩ := hi.ex
  obtain ⟨_, pf, qf⟩ := hf.ex
  refine ⟨_, pe_dget2 hu po pi pf m, fun E F φ ε σ H τ Q QH S h k => ?_⟩
  refine qo E F φ ε σ H τ _ _ S h fun x v F1 φ1 ε1 H1 S1 ok1 h1 => ?_
  obtain ⟨ds0, c0, h1⟩ := h1
  obtain ⟨A0, r0, _, _⟩ := S1.view ok1 c0
  rw [rep_dk] at r0
  obtain ⟨a, us0, B0, rfl, _, ha0, rk0⟩ := r0
  refine ⟨a, rfl, .inl ⟨us0, .inl ha0⟩, ?_⟩
  refine qi E F1 φ1 ε1 σ H1 _ _ _ S1 h1 fun y u F2 φ2 ε2 H2 S2 ok2 h2 => ?_
  refine qf E F2 φ2 ε2 σ H2 _ _ _ S2 h2 fun z uz F3 φ3 ε3 H3 S3 ok3 h3 => ?_
  obtain ⟨ds, key, dz, ε4, c, rfl, rfl, b, hq⟩ := h3
  obtain ⟨ddz, S4⟩ := one_v S3
  obtain ⟨dy, S5⟩ := one_v S4
  obtain ⟨A, r, _, _⟩ := S5.view ok1 c
  obtain ⟨φ6, S6⟩ := S5.back ok1 b
  rw [rep_dk] at r
  obtain ⟨a', us, B, e, _, ha, rk⟩ := r
  cases e
  obtain ⟨dk, _⟩ := rk.toD
  rw [dq_key dy]
  refine ⟨valV us key, DGet.k ha, ?_⟩
  rcases dk.val key with ⟨e1, e2⟩ | ⟨d', v', e1, e2, dd⟩
  · rw [e1] at hq
    rw [e2]
    obtain ⟨φ7, S7⟩ := S6.pushD ddz
    exact k (.v (.d dz)) uz F3 φ7 ε4 H3 S7 True.intro hq
  · rw [e1] at hq
    rw [e2]
    obtain ⟨φ7, S7⟩ := S6.pushD dd
    exact k (.v (.d d')) v' F3 φ7 ε4 H3 S7 True.intro hq
def tDget1 (to ti : TEA) : TEA := fun ε Q => to ε fun x ε1 => ∃ ds0, cnt ε1 x = some (WD ds0) ∧ ti ε1 fun y ε2 => ∃ ds k ε4, cnt ε2 x = some (WD ds) ∧ y = .v (.d (kD k)) ∧ bck x ε2 = some ε4 ∧ Q (.v (.d ((valD ds k).getD .none))) ε4
theorem ae_dget1 {apos cpos : Pos} (hu : X.A.units + 1 < cLine) (ho : AE X o to) (hi : AE X i ti) (m : M1 X o "get" apos i cpos := by exact ⟨rfl, rfl, rfl, rfl⟩) : AE X (.Call (.Attribute o "get" apos) [i] [] cpos) (tDget1 to ti) := by
  obtain ⟨_, po, qo⟩ := ho.ex
  obtain ⟨_, pi, qi⟩ := hi.ex
  refine ⟨_, pe_dget1 hu po pi m, fun E F φ ε σ H τ Q QH S h k => ?_⟩
  refine qo E F φ ε σ H τ _ _ S h fun x v F1 φ1 ε1 H1 S1 ok1 h1 => ?_
  obtain ⟨ds0, c0, h1⟩ := h1
  obtain ⟨A0, r0, _, _⟩ := S1.view ok1 c0
  rw [rep_dk] at r0
  obtain ⟨a, us0, B0, rfl, _, ha0, rk0⟩ := r0
  refine ⟨a, rfl, .inl ⟨us0, .inl ha0⟩, ?_⟩
  refine qi E F1 φ1 ε1 σ H1 _ _ _ S1 h1 fun y u F2 φ2 ε2 H2 S2 ok2 h2 => ?_
  obtain ⟨ds, key, ε4, c, rfl, b, hq⟩ := h2
  obtain ⟨dy, S5⟩ := one_v S2
  obtain ⟨A, r, _, _⟩ := S5.view ok1 c
  obtain ⟨φ6, S6⟩ := S5.back ok1 b
  rw [rep_dk] at r
  obtain ⟨a', us, B, e, _, ha, rk⟩ := r
  cases e
  obtain ⟨dk, _⟩ := rk.toD
  rw [dq_key dy]
  refine ⟨valV us key, DGet.k ha, ?_⟩
  rcases dk.val key with ⟨e1, e2⟩ | ⟨d', v', e1, e2, dd⟩
  · rw [e1] at hq
    rw [e2]
    obtain ⟨φ7, S7⟩ := S6.pushD (x := .none) (v := .non) (by rw [dq_none])
    exact k (.v (.d .none)) .non F2 φ7 ε4 H2 S7 True.intro hq
  · rw [e1] at hq
    rw [e2]
    obtain ⟨φ7, S7⟩ := S6.pushD dd
    exact k (.v (.d d')) v' F2 φ7 ε4 H2 S7 True.intro hq
/-- d[k] = data -/
def tDput (to ti te : TEA) : TSA := fun D ε => te ε fun rv ε1 => to ε1 fun x ε2 => ti ε2 fun y ε3 => ∃ d ds k ε4, rv = .v (.d d) ∧ y = .v (.d (kD k)) ∧ cnt ε3 x = some (WD ds) ∧ ds.length < sizeLine ∧ put x (WD (putD ds k d)) ε3 = some ε4 ∧ D.nx ε4
theorem as_dput {bp : List Nat} (hu : X.A.units + 1 < cLine) (ho : AE X o to) (hi : AE X i ti) (hv : AE X e te) (hs : swapsWith e (some (.Subscript o i pos')) pos.line X.env = pure false := by rfl) : AS X bp (.Assign [.Subscript o i pos'] e pos) (tDput to ti te) := by
  obtain ⟨_, po, qo⟩ := ho.ex
  obtain ⟨_, pi, qi⟩ := hi.ex
  obtain ⟨_, pv, qv⟩ := hv.ex
  refine ⟨_, ps_dput hu po pi pv hs, fun E F φ ε σ H τ D DH hb S h f => ?_⟩
  refine qv E F φ ε σ H τ _ _ S h fun rv v F1 φ1 ε1 H1 S1 ok1 h1 => ?_
  refine qo E F1 φ1 ε1 σ H1 _ _ _ S1 h1 fun x vx F2 φ2 ε2 H2 S2 ok2 h2 => ?_
  refine qi E F2 φ2 ε2 σ H2 _ _ _ S2 h2 fun y vy F3 φ3 ε3 H3 S3 ok3 h3 => ?_
  obtain ⟨d, ds, key, ε4, rfl, rfl, c, hl, hp, hq⟩ := h3
  obtain ⟨dy, S4⟩ := one_v S3
  obtain ⟨A, r, nd, hA⟩ := S4.view ok2 c
  rw [rep_dk] at r
  obtain ⟨a, us, B, rfl, rfl, ha, rk⟩ := r
  obtain ⟨dk, rfl⟩ := rk.toD
  rw [dq_key dy]
  have dv : Dq X.K F3 d v := by
    cases x with
    | sl j => exact (one_v S4).1
    | v w => exact (one_v (Sta.drop (r := [(w, V.ref a)]) S4)).1
    | fl j p u w => exact (one_v (Sta.drop (r := [(w, V.ref a)]) S4)).1
  refine ⟨a, _, rfl, DPut.k ha (by rw [dk.len]; exact hl), ?_⟩
  have off : ∀ b, b ∉ [a] → upd H3 a (.dK (putK us key v)) b = H3 b := fun b hb => upd_ne fun e => hb (by rw [e]; exact List.mem_singleton.mpr rfl)
  have pre : ∀ b, upd H3 a (.dK (putK us key v)) b = none → H3 b = none := fun b h => by
    by_cases z : b = a
    · rw [z, upd_same] at h; cases h
    · rw [upd_ne z] at h; exact h
  have rw' : Rep X.K F3 (upd H3 a (.dK (putK us key v))) (WD (putD ds key d)) (.ref a) [a] := by
    rw [rep_dk]
    exact ⟨a, _, [], rfl, rfl, upd_same, (dk.put dv).rep⟩
  have rr : Rep X.K F3 (upd H3 a (.dK (putK us key v))) (.d .none) .non [] := by
    rw [rep_d, dq_none]
    exact ⟨rfl, rfl⟩
  cases x with
  | sl j =>
    have ok2 : σ[j]? = some (some (.ref a)) := ok2
    have S5 : Sta X.K E F3 φ3 ε3 σ H3 τ := (one_v S4).2
    have c := join_some c
    obtain ⟨v', A', e1, rA, nA, hA'⟩ := S5.slot j _ c
    rw [ok2] at e1
    cases e1
    rw [rep_dk] at rA
    obtain ⟨a', us', B', e2, rfl, _, rk'⟩ := rA
    cases e2
    obtain ⟨_, rfl⟩ := rk'.toD
    obtain ⟨hi, _⟩ := List.getElem?_eq_some_iff.mp c
    obtain ⟨φ6, S6⟩ := Sta.mutS (ws := []) (vs := []) (A := [a]) (B := []) (by simpa using S5) hi ok2 hA' (fun b h => nomatch h) off pre rr rw' (by simp) (fun b h => .inl (by simpa using h))
    cases hp
    exact f.nx F3 φ6 _ σ _ (Sta.drop S6) hq
  | v w =>
    cases c
    have S4 : Sta X.K E F3 φ3 ε3 σ H3 (τ ++ [(W.d d, v)] ++ [(WD ds, V.ref a)]) := S4
    obtain ⟨A', rA, nA, hA'⟩ := Sta.tmp (τ := τ ++ [(W.d d, v)] ++ [(WD ds, V.ref a)]) S4 (τ ++ [(W.d d, v)]).length _ _ getE_last
    rw [rep_dk] at rA
    obtain ⟨a', us', B', e2, rfl, _, rk'⟩ := rA
    cases e2
    obtain ⟨_, rfl⟩ := rk'.toD
    obtain ⟨φ6, S6⟩ := Sta.mutT (ws := []) (vs := []) (A := [a]) (B := []) (τ := τ ++ [(W.d d, v)]) (by simpa using S4) hA' (fun b h => nomatch h) off pre rr rw' (by simp) (fun b h => .inl (by simpa using h))
    cases hp
    exact f.nx F3 φ6 _ σ _ (Sta.drop (τ := τ) (r := [(W.d d, v), (W.d .none, V.non), (WD (putD ds key d), V.ref a)]) (by simpa using S6)) hq
  | fl j p u w =>
    cases c
    have S4 : Sta X.K E F3 φ3 ε3 σ H3 (τ ++ [(W.d d, v)] ++ [(WD ds, V.ref a)]) := S4
    obtain ⟨A', rA, nA, hA'⟩ := Sta.tmp (τ := τ ++ [(W.d d, v)] ++ [(WD ds, V.ref a)]) S4 (τ ++ [(W.d d, v)]).length _ _ getE_last
    rw [rep_dk] at rA
    obtain ⟨a', us', B', e2, rfl, _, rk'⟩ := rA
    cases e2
    obtain ⟨_, rfl⟩ := rk'.toD
    obtain ⟨φ6, S6⟩ := Sta.mutT (ws := []) (vs := []) (A := [a]) (B := []) (τ := τ ++ [(W.d d, v)]) (by simpa using S4) hA' (fun b h => nomatch h) off pre rr rw' (by simp) (fun b h => .inl (by simpa using h))
    obtain ⟨φ7, S7⟩ := Sta.back (rv := .fl j p u (WD (putD ds key d))) (v := V.ref a) (τ := τ ++ [(W.d d, v)] ++ [(W.d .none, V.non)]) S6 ok2 hp
    exact f.nx F3 φ7 _ σ _ (Sta.drop (τ := τ) (r := [(W.d d, v), (W.d .none, V.non)]) (by simpa using S7)) hq
/-- {} -/
theorem ae_dnew {pos : Pos} : AE X (.Dict [] [] pos) (tK (WD [])) := by
  refine ⟨_, pe_dnewK, fun E F φ ε σ H τ Q QH S h k => ?_⟩
  intro d hd
  obtain ⟨φ', S'⟩ := S.new (New.dk (ds := []) (us := []) hd (by rw [List.map_nil, dqk_nil]) rfl)
  exact k (.v (WD [])) _ F φ' ε _ S' True.intro h
end

/-! ## attributes -/
theorem Repf.lk {K : PySem.W.Frag} {F H : Hp} {f : Str} {w : W} {fs : List (Str × W)} {us : List (Str × V)} {A : List Addr} (r : Repf K F H fs us A) (h : fs.lookup f = some w) : ∃ u, us.lookup f = some u := by
  obtain ⟨u, _, _, _, _, h, _⟩ := r.part h
  exact ⟨u, h⟩
theorem Repf.len {K : PySem.W.Frag} {F H : Hp} : ∀ {fs : List (Str × W)} {us : List (Str × V)} {A : List Addr}, Repf K F H fs us A → us.length = fs.length
  | [], us, A, r => by rw [repf_nil] at r; rw [r.1]; rfl
  | (k, w) :: fs, us, A, r => by
    rw [repf_cons] at r
    obtain ⟨v, r', B, C, rfl, _, _, q⟩ := r
    rw [List.length_cons, List.length_cons, Repf.len q]
theorem Repf.put {K : PySem.W.Frag} {F H : Hp} {f : Str} {w : W} {v : V} {B : List Addr} (h : Rep K F H w v B) : ∀ {fs : List (Str × W)} {us : List (Str × V)} {A : List Addr}, Repf K F H fs us A → (A ++ B).Nodup →
    ∃ A', Repf K F H (putW f w fs) (putF f v us) A' ∧ A'.Nodup ∧ ∀ a ∈ A', a ∈ A ∨ a ∈ B
  | [], us, A, r, nd => by
    rw [repf_nil] at r
    obtain ⟨rfl, rfl⟩ := r
    refine ⟨B, ?_, by simpa using nd, fun a ha => .inr ha⟩
    show Repf K F H [(f, w)] [(f, v)] B
    rw [repf_cons]
    exact ⟨v, [], B, [], rfl, by simp, h, by rw [repf_nil]; exact ⟨rfl, rfl⟩⟩
  | (g, y) :: r, us, A, r0, nd => by
    rw [repf_cons] at r0
    obtain ⟨u, us', C, D, rfl, rfl, p, q⟩ := r0
    have nd' := nd
    rw [List.append_assoc, List.nodup_append] at nd'
    obtain ⟨n1, n2, n3⟩ := nd'
    by_cases hg : g = f
    · subst hg
      unfold putW putF
      rw [if_pos rfl, if_pos rfl]
      refine ⟨B ++ D, by rw [repf_cons]; exact ⟨v, us', B, D, rfl, rfl, h, q⟩, ?_, fun a ha => ?_⟩
      · obtain ⟨m1, m2, m3⟩ := List.nodup_append.mp n2
        exact List.nodup_append.mpr ⟨m2, m1, fun a ha b hb e => m3 b hb a ha e.symm⟩
      · rcases List.mem_append.mp ha with z | z
        · exact .inr z
        · exact .inl (List.mem_append_right _ z)
    · unfold putW putF
      rw [if_neg hg, if_neg hg]
      obtain ⟨A', a1, a2, a3⟩ := Repf.put h q n2
      refine ⟨C ++ A', by rw [repf_cons]; exact ⟨u, putF f v us', C, A', rfl, rfl, p, a1⟩, List.nodup_append.mpr ⟨n1, a2, fun a ha b hb e => ?_⟩, fun a ha => ?_⟩
      · rcases a3 b hb with z | z
        · exact n3 a ha b (List.mem_append_left _ z) e
        · exact n3 a ha b (List.mem_append_right _ z) e
      · rcases List.mem_append.mp ha with z | z
        · exact .inl (List.mem_append_left _ z)
        · rcases a3 a z with y | y
          · exact .inl (List.mem_append_right _ y)
          · exact .inr y
/-- content that may be handed on twice -/
def plainW : W → Bool
  | .d _ => true
  | .v _ => true
  | _ => false
def tFld (C : Addr) (f : Str) (te : TEA) : TEA := fun ε Q => te ε fun x ε1 => ∃ fs w, cnt ε1 x = some (.ins C fs) ∧ fs.lookup f = some w ∧ match x with
  | .sl i => if plainW w = true then Q (.v w) ε1 else ∀ u, Q (.fl i [f] u w) (ε1.set i (some (.ins C (putW f (.v u) fs))))
  | .v _ => Q (.v w) ε1
  | .fl i p u _ => ∃ ε2, bck x ε1 = some ε2 ∧ plainW w = true ∧ Q (.v w) ε2
section
variable {X : Cx} {bp : List Nat} {o e : Expr} {to te : TEA} {pos pos' : Pos} {C : Addr} {f : Str}
theorem plain_rep {K : PySem.W.Frag} {F H F' H' : Hp} {w : W} {v : V} {A : List Addr} (h : plainW w = true) (r : Rep K F H w v A) : New K F H w v F H := by
  cases w with
  | d x => rw [rep_d] at r; exact .pure r.1
  | v x => rw [rep_v] at r; rw [r.1]; exact .raw
  | lst _ => cases h
  | dk _ => cases h
  | ins _ _ => cases h
  | tup _ => cases h
theorem ae_fld (c : Cls X.K C) (n : NoAttr X.K C f) (he : AE X e te) (hb : attributeBase e f X.env (eval e X.env) = eval e X.env := by rfl) : AE X (.Attribute e f pos) (tFld C f te) := by
  obtain ⟨_, p, q⟩ := he.ex
  refine ⟨_, pe_fld p hb, fun E F φ ε σ H τ Q QH S h k => ?_⟩
  refine q E F φ ε σ H τ _ _ S h fun x v F1 φ1 ε1 H1 S1 ok1 h1 => ?_
  obtain ⟨fs, w, cn, hl, h1⟩ := h1
  obtain ⟨A, r, nd, hA⟩ := S1.view ok1 cn
  have r0 := r
  rw [rep_ins] at r
  obtain ⟨a, dx, us, B, rfl, rfl, ha, rf⟩ := r
  obtain ⟨u, P, B1, T, rfl, lu, rw', kk⟩ := rf.part hl
  refine ⟨a, C, dx, us, u, rfl, ha, c, n, lu, ?_⟩
  cases x with
  | sl i =>
    have ok1 : σ[i]? = some (some (.ref a)) := ok1
    have S1 : Sta X.K E F1 φ1 ε1 σ H1 τ := S1
    have cn := join_some cn
    obtain ⟨v', A', e1, rA, nA, hA'⟩ := S1.slot i _ cn
    rw [ok1] at e1
    cases e1
    rw [rep_ins] at rA
    obtain ⟨a', dx', us', B', e2, rfl, ha', rf'⟩ := rA
    cases e2
    rw [ha] at ha'
    cases ha'
    obtain ⟨u', P', B1', T', rfl, lu', rw1, kk'⟩ := rf'.part hl
    rw [lu] at lu'
    cases lu'
    dsimp only at h1
    by_cases hp : plainW w = true
    · rw [if_pos hp] at h1
      obtain ⟨φ2, S2⟩ := S1.new (plain_rep (F' := F1) (H' := H1) hp rw1)
      exact k (.v w) u F1 φ2 ε1 H1 S2 True.intro h1
    · rw [if_neg hp] at h1
      -- the part goes over into a row of its own
      have nA' := nA
      rw [List.nodup_cons] at nA'
      obtain ⟨m1, m2, m3⟩ := nodup_mid nA'.2
      obtain ⟨hi, _⟩ := List.getElem?_eq_some_iff.mp cn
      have S2 : ∃ φ2, Sta X.K E F1 φ2 (ε1.set i (some (.ins C (putW f (.v u) fs)))) σ H1 (τ ++ [(w, u)]) := by
        refine ⟨fun b => if b ∈ B1' then some (ε1.length + τ.length) else φ1 b, S1.step (R := fun k => k ≠ i) (Stp.tag S1 (fun b j h hj => ?_) fun b j h => ?_) (by rw [List.length_set]; exact S1.len) (List.length_set ..) S1.fix (fun j w0 h => ?_) fun j w0 v0 h => ?_⟩
        · show (if b ∈ B1' then some (ε1.length + τ.length) else φ1 b) = some j
          rw [if_neg (fun z => by
            have q := hA' b (List.mem_cons_of_mem _ (List.mem_append_left _ (List.mem_append_right _ z)))
            rw [h] at q
            exact hj (Option.some.inj q))]
          exact h
        · have h : (if b ∈ B1' then some (ε1.length + τ.length) else φ1 b) = some j := h
          by_cases z : b ∈ B1'
          · exact ⟨i, hA' b (List.mem_cons_of_mem _ (List.mem_append_left _ (List.mem_append_right _ z)))⟩
          · rw [if_neg z] at h; exact ⟨j, h⟩
        · rcases set_get h with ⟨rfl, e⟩ | ⟨ne, h⟩
          · cases e
            refine .inr ⟨.ref a, a :: (P' ++ [] ++ T'), ok1, ?_, ?_, fun b hb => ?_⟩
            · rw [rep_ins]
              exact ⟨a, dx, us, P' ++ [] ++ T', rfl, rfl, ha, kk' (.v u) [] (by rw [rep_v]; exact ⟨rfl, rfl⟩)⟩
            · rw [List.append_nil, List.nodup_cons]
              exact ⟨fun z => nA'.1 (by
                rcases List.mem_append.mp z with y | y
                · simp [y]
                · simp [y]), m1⟩
            · rw [List.append_nil] at hb
              have hin : b ∈ a :: (P' ++ B1' ++ T') := by
                rcases List.mem_cons.mp hb with y | y
                · rw [y]; exact List.mem_cons_self
                · rcases List.mem_append.mp y with y | y
                  · simp [y]
                  · simp [y]
              show (if b ∈ B1' then some (ε1.length + τ.length) else φ1 b) = some j
              rw [if_neg (fun z => by
                rcases List.mem_cons.mp hb with y | y
                · subst y
                  exact nA'.1 (by simp [z])
                · rcases List.mem_append.mp y with y | y
                  · exact (m3 b z).1 y
                  · exact (m3 b z).2 y)]
              exact hA' b hin
          · exact .inl ⟨ne, h, rfl⟩
        · rcases getE_app h with h | ⟨rfl, e⟩
          · exact .inl ⟨by show ε1.length + j ≠ i; omega, h⟩
          · cases e
            exact .inr ⟨B1', rw1, m2, fun b hb => by show (if b ∈ B1' then some (ε1.length + τ.length) else φ1 b) = _; rw [if_pos hb]⟩
      obtain ⟨φ2, S2⟩ := S2
      exact k (.fl i [f] u w) u F1 φ2 _ H1 S2 rfl (h1 u)
  | v w0 =>
    have S1 : Sta X.K E F1 φ1 ε1 σ H1 (τ ++ [(w0, .ref a)]) := S1
    cases cn
    obtain ⟨A', rA, nA, hA'⟩ := S1.tmp τ.length _ _ getE_last
    rw [rep_ins] at rA
    obtain ⟨a', dx', us', B', e2, rfl, ha', rf'⟩ := rA
    cases e2
    rw [ha] at ha'
    cases ha'
    obtain ⟨u', P', B1', T', rfl, lu', rw1, kk'⟩ := rf'.part hl
    rw [lu] at lu'
    cases lu'
    obtain ⟨m1, m2, m3⟩ := nodup_mid (List.nodup_cons.mp nA).2
    have S3 : Sta X.K E F1 φ1 ε1 σ H1 τ := Sta.drop (r := [(_, V.ref a)]) S1
    have ht : ∀ j w1 v1, (τ ++ [(w, u)])[j]? = some (w1, v1) → ∃ A, Rep X.K F1 H1 w1 v1 A ∧ A.Nodup ∧ ∀ b ∈ A, φ1 b = some (ε1.length + j) := fun j w1 v1 h => by
      rcases getE_app h with h | ⟨rfl, e⟩
      · exact S1.tmp j w1 v1 (getE_left h)
      · cases e
        exact ⟨B1', rw1, m2, fun b hb => hA' b (List.mem_cons_of_mem _ (List.mem_append_left _ (List.mem_append_right _ hb)))⟩
    have S2 : Sta X.K E F1 φ1 ε1 σ H1 (τ ++ [(w, u)]) := { S3 with tmp := ht }
    exact k (.v w) u F1 φ1 ε1 H1 S2 True.intro h1
  | fl i p u0 w0 =>
    cases cn
    obtain ⟨ε2, b, hp, h1⟩ := h1
    obtain ⟨φ2, S2⟩ := S1.back ok1 b
    obtain ⟨φ3, S3⟩ := S2.new (plain_rep (F' := F1) (H' := H1) hp rw')
    exact k (.v w) u F1 φ3 ε2 H1 S3 True.intro h1
/-- o.f = e, o an own variable -/
def tFldS (C : Addr) (f : Str) (to te : TEA) : TSA := fun D ε => te ε fun rv ε1 => ∃ w ε2, Tak rv ε1 w ε2 ∧ to ε2 fun x ε3 => ∃ i fs, x = .sl i ∧ ε3[i]? = some (some (.ins C fs)) ∧ fs.length < 1000 ∧ D.nx (ε3.set i (some (.ins C (putW f w fs))))
theorem as_fld (c : Cls X.K C) (n : NoAttr X.K C f) (ho : AE X o to) (he : AE X e te) (hs : swapsWith e (some (.Attribute o f pos')) pos.line X.env = pure false := by rfl) : AS X bp (.Assign [.Attribute o f pos'] e pos) (tFldS C f to te) := by
  obtain ⟨_, po, qo⟩ := (ho).ex
  obtain ⟨_, pv, qv⟩ := he.ex
  refine ⟨_, ps_fld po pv hs, fun E F φ ε σ H τ D DH hb S h fit => ?_⟩
  refine qv E F φ ε σ H τ _ _ S h fun rv v F1 φ1 ε1 H1 S1 ok1 h1 => ?_
  obtain ⟨w, ε2, tk, h1⟩ := h1
  obtain ⟨F2, φ2, S2⟩ := S1.take ok1 tk
  refine qo E F2 φ2 ε2 σ H1 _ _ _ S2 h1 fun x vx F3 φ3 ε3 H3 S3 ok3 h3 => ?_
  obtain ⟨i, fs, rfl, cn, hl, hq⟩ := h3
  have S3 : Sta X.K E F3 φ3 ε3 σ H3 (τ ++ [(w, v)]) := S3
  have ok3 : σ[i]? = some (some vx) := ok3
  obtain ⟨v', A, e1, rA, nA, hA⟩ := S3.slot i _ cn
  rw [ok3] at e1
  cases e1
  rw [rep_ins] at rA
  obtain ⟨a, dx, us, B, rfl, rfl, ha, rf⟩ := rA
  obtain ⟨Bw, rw', nB, hB⟩ := S3.tmp τ.length w v getE_last
  obtain ⟨hi, _⟩ := List.getElem?_eq_some_iff.mp cn
  have sep : ∀ b ∈ a :: B, b ∉ Bw := fun b hb z => by
    have q := hA b hb
    rw [hB b z] at q
    have q := Option.some.inj q
    omega
  have nd : ((a :: B) ++ Bw).Nodup := List.nodup_append.mpr ⟨nA, nB, fun b hb d hd e => sep b hb (e ▸ hd)⟩
  refine ⟨a, C, dx, us, rfl, ha, c, n, by rw [rf.len]; exact hl, ?_⟩
  have na : ∀ b, b ∈ B ∨ b ∈ Bw → b ≠ a := fun b hb e => by
    subst e
    rcases hb with z | z
    · exact (List.nodup_cons.mp nA).1 z
    · exact sep b List.mem_cons_self z
  obtain ⟨A', r', n', s'⟩ := Repf.put (f := f) (Rep.keep (H' := upd H3 a (.ins C dx (putF f v us))) (Same.refl _) w v Bw (fun b hb => upd_ne (na b (.inr hb))) rw') (Repf.keep (Same.refl _) fs us B (fun b hb => upd_ne (na b (.inl hb))) rf) (by
    rw [List.cons_append] at nd
    exact (List.nodup_cons.mp nd).2)
  obtain ⟨φ6, S6⟩ := Sta.mutS (ws := [w]) (vs := [v]) (A := a :: B) (B := Bw) (res := .d .none) (u := .non) (Ar := []) (w' := .ins C (putW f w fs)) (A' := a :: A') (H' := upd H3 a (.ins C dx (putF f v us))) S3 hi ok3 hA (fun b hb => ⟨_, hB b hb, Nat.le_refl _⟩)
    (fun b hb => upd_ne fun e => hb (by rw [e]; exact List.mem_cons_self)) (fun b h => by
      by_cases z : b = a
      · rw [z, upd_same] at h; cases h
      · rw [upd_ne z] at h; exact h) (by rw [rep_d, dq_none]; exact ⟨rfl, rfl⟩) (by rw [rep_ins]; exact ⟨a, dx, _, A', rfl, rfl, upd_same, r'⟩) (by
      rw [List.nil_append, List.nodup_cons]
      exact ⟨fun z => na a (s' a z) rfl, n'⟩) (fun b hb => by
      rw [List.nil_append] at hb
      rcases List.mem_cons.mp hb with z | z
      · rw [z]; exact .inl List.mem_cons_self
      · rcases s' b z with y | y
        · exact .inl (List.mem_cons_of_mem _ y)
        · exact .inr y)
  exact fit.nx F3 φ6 _ σ _ (Sta.drop S6) hq
end
end Ab

namespace Ab
open PySem PySem.Spec PyProof.Rows L2

/-! ## comprehensions -/
/-- the slots vs are forgotten -/
def wipeW (ε : Env) : List Nat → Env
  | [] => ε
  | v :: vs => (wipeW ε vs).set v none
/-- … and, where they held plain contents, told again -/
def keepW : Option (Option W) → Option W
  | some (some w) => if plainW w = true then some w else none
  | _ => none
def restW (ε1 : Env) : List Nat → Env → Env
  | [], ε => ε
  | v :: vs, ε => (restW ε1 vs ε).set v (keepW ε1[v]?)
theorem wipeW_len (ε : Env) : ∀ vs, (wipeW ε vs).length = ε.length
  | [] => rfl
  | v :: vs => by unfold wipeW; rw [List.length_set, wipeW_len ε vs]
theorem restW_len (ε1 ε : Env) : ∀ vs, (restW ε1 vs ε).length = ε.length
  | [] => rfl
  | v :: vs => by unfold restW; rw [List.length_set, restW_len ε1 ε vs]
theorem wipeW_get {ε : Env} {j : Nat} {w : W} : ∀ {vs : List Nat}, (wipeW ε vs)[j]? = some (some w) → ε[j]? = some (some w) ∧ j ∉ vs
  | [], h => ⟨h, by simp⟩
  | v :: vs, h => by
    unfold wipeW at h
    by_cases e : v = j
    · subst e
      by_cases hl : v < (wipeW ε vs).length
      · rw [List.getElem?_set_self hl] at h; cases h
      · rw [List.getElem?_eq_none (by rw [List.length_set]; omega)] at h; cases h
    · rw [List.getElem?_set_ne e] at h
      obtain ⟨h1, h2⟩ := wipeW_get h
      exact ⟨h1, fun z => (List.mem_cons.mp z).elim (fun z => e z.symm) h2⟩
theorem keepW_some {o : Option (Option W)} {w : W} (h : keepW o = some w) : o = some (some w) ∧ plainW w = true := by
  unfold keepW at h
  split at h
  · split at h
    · cases h; exact ⟨rfl, by assumption⟩
    · cases h
  · cases h
theorem restW_get {ε1 ε : Env} {j : Nat} {w : W} : ∀ {vs : List Nat}, (restW ε1 vs ε)[j]? = some (some w) → (ε1[j]? = some (some w) ∧ plainW w = true) ∨ (j ∉ vs ∧ ε[j]? = some (some w))
  | [], h => .inr ⟨by simp, h⟩
  | v :: vs, h => by
    unfold restW at h
    by_cases e : v = j
    · subst e
      by_cases hl : v < (restW ε1 vs ε).length
      · rw [List.getElem?_set_self hl] at h
        exact .inl (keepW_some (Option.some.inj h))
      · rw [List.getElem?_eq_none (by rw [List.length_set]; omega)] at h; cases h
    · rw [List.getElem?_set_ne e] at h
      rcases restW_get h with h | ⟨h1, h2⟩
      · exact .inl h
      · exact .inr ⟨fun z => (List.mem_cons.mp z).elim (fun z => e z.symm) h1, h2⟩
theorem wipe_ext {σ σ' : L2.St} (hl : σ'.length = σ.length) : ∀ {vs : List Nat}, (∀ j, j ∉ vs → σ'[j]? = σ[j]?) → wipe σ' vs = wipe σ vs := by
  intro vs h
  apply List.ext_getElem?
  intro j
  by_cases hj : j ∈ vs
  · have none_of : ∀ (σ : L2.St) (vs : List Nat), j ∈ vs → (wipe σ vs)[j]? = if j < σ.length then some none else none := by
      intro σ vs
      induction vs with
      | nil => intro h; cases h
      | cons v vs ih =>
        intro h
        unfold wipe
        by_cases e : v = j
        · subst e
          by_cases hl : v < σ.length
          · rw [List.getElem?_set_self (by rw [wipe_length]; exact hl), if_pos hl]
          · rw [List.getElem?_eq_none (by rw [List.length_set, wipe_length]; omega), if_neg hl]
        · rw [List.getElem?_set_ne e]
          exact ih ((List.mem_cons.mp h).resolve_left fun z => e z.symm)
    rw [none_of σ' vs hj, none_of σ vs hj, hl]
  · rw [wipe_out hj, wipe_out hj, h j hj]

section
variable {K : PySem.W.Frag} {E : Ent} {F F' H H' : Hp} {φ φ' : Addr → Option Nat} {ε ε' : Env} {σ σ' : L2.St} {τ τ' : List (W × V)} {rv : EV} {v : V} {w : W}
/-- the entry of a block: nothing is pinned, and what is frozen stays -/
def Ent.blk (E : Ent) (F : Hp) : Ent := { E with F0 := F, bp := [] }
theorem Sta.blk (S : Sta K E F φ ε σ H τ) (vs : List Nat) : Sta K (E.blk F) F φ (wipeW ε vs) (wipe σ vs) H τ where
  ext := Same.refl _
  fnew := fun b h => .inl h
  sub := S.sub
  old := S.old
  pre := S.pre
  own := S.own
  len := by rw [wipeW_len, wipe_length]; exact S.len
  fix := fun i h => nomatch h
  slot := fun i w h => by
    obtain ⟨h1, h2⟩ := wipeW_get h
    obtain ⟨v, A, e, q⟩ := S.slot i w h1
    exact ⟨v, A, by rw [wipe_out h2]; exact e, q⟩
  tmp := fun j w v h => by rw [wipeW_len]; exact S.tmp j w v h
theorem Sta.wipe (S : Sta K (E.blk F) F' φ ε σ H τ) (vs : List Nat) : Sta K (E.blk F) F' φ (wipeW ε vs) (L2.wipe σ vs) H τ where
  ext := S.ext
  fnew := S.fnew
  sub := S.sub
  old := S.old
  pre := S.pre
  own := S.own
  len := by rw [wipeW_len, wipe_length]; exact S.len
  fix := fun i h => nomatch h
  slot := fun i w h => by
    obtain ⟨h1, h2⟩ := wipeW_get h
    obtain ⟨v, A, e, q⟩ := S.slot i w h1
    exact ⟨v, A, by rw [wipe_out h2]; exact e, q⟩
  tmp := fun j w v h => by rw [wipeW_len]; exact S.tmp j w v h
theorem Sta.rest {ε1 : Env} {F1 H1 : Hp} {φ1 : Addr → Option Nat} {τ1 : List (W × V)} {vs : List Nat} (S1 : Sta K E F1 φ1 ε1 σ H1 τ1) (S : Sta K (E.blk F1) F φ ε (L2.wipe σ vs) H τ) : Sta K E F φ (restW ε1 vs ε) σ H τ where
  ext := fun b o h => S.ext b o (S1.ext b o h)
  fnew := fun b h => by
    rcases S.fnew b h with h | h
    · exact S1.fnew b h
    · exact .inr h
  sub := S.sub
  old := S.old
  pre := S.pre
  own := S.own
  len := by rw [restW_len]; exact S.len.trans (wipe_length _ _)
  fix := S1.fix
  slot := fun i w h => by
    rcases restW_get h with ⟨h1, h2⟩ | ⟨h1, h2⟩
    · obtain ⟨v, A, e, r, _⟩ := S1.slot i w h1
      refine ⟨v, [], e, ?_, List.nodup_nil, fun a h => nomatch h⟩
      cases w with
      | d x =>
        rw [rep_d] at r ⊢
        exact ⟨Dq.mono S.ext _ _ r.1, rfl⟩
      | v x =>
        rw [rep_v] at r ⊢
        exact ⟨r.1, rfl⟩
      | lst _ => cases h2
      | dk _ => cases h2
      | ins _ _ => cases h2
      | tup _ => cases h2
    · obtain ⟨v, A, e, q⟩ := S.slot i w h2
      exact ⟨v, A, by rw [wipe_out h1] at e; exact e, q⟩
  tmp := fun j w v h => by rw [restW_len]; exact S.tmp j w v h
/-- a loan goes back below the topmost row -/
theorem Sta.backU {u : V} (S : Sta K E F φ ε σ H (evT rv v τ ++ [(w, u)])) (ok : evOk rv σ v) (b : bck rv ε = some ε') : ∃ φ', Sta K E F φ' ε' σ H (τ ++ [(w, u)]) := by
  cases rv with
  | sl i => cases b; exact ⟨φ, S⟩
  | v w2 =>
    obtain ⟨φ1, S1⟩ := Sta.swap (a := (w2, v)) (b := (w, u)) S
    exact Sta.back (rv := .v w2) (τ := τ ++ [(w, u)]) S1 ok b
  | fl i p z w2 =>
    obtain ⟨φ1, S1⟩ := Sta.swap (a := (w2, v)) (b := (w, u)) S
    exact Sta.back (rv := .fl i p z w2) (τ := τ ++ [(w, u)]) S1 ok b
end

/-! ### readings that hold in every block -/
def upE (K : PySem.W.Frag) (t : TEA) : TE := fun σ H QH => ∃ (E : Ent) (F : Hp) (φ : Addr → Option Nat) (ε : Env) (τ : List (W × V)) (Q : EV → Env → Prop), Sta K E F φ ε σ H τ ∧ t ε Q ∧
  ∀ rv v F' φ' ε' H', Sta K E F' φ' ε' σ H' (evT rv v τ) → evOk rv σ v → Q rv ε' → QH v H'
def upT (K : PySem.W.Frag) (t : TTA) : TT := fun σ H QH => ∃ (E : Ent) (F : Hp) (φ : Addr → Option Nat) (ε : Env) (τ : List (W × V)) (Q : Bool → Env → Prop), Sta K E F φ ε σ H τ ∧ t ε Q ∧
  ∀ b F' φ' ε' H', Sta K E F' φ' ε' σ H' τ → Q b ε' → QH b H'
def upG (K : PySem.W.Frag) (bp ts : List Nat) (g : TGA) : TG := fun v σ H QH => ∃ (E : Ent) (F : Hp) (φ : Addr → Option Nat) (ε : Env) (τ : List (W × V)) (w : W) (Q : Env → Prop), E.bp = bp ∧ Sta K E F φ ε σ H (τ ++ [(w, v)]) ∧ g w ε Q ∧
  ∀ F' φ' ε' σ' H', Sta K E F' φ' ε' σ' H' τ → ε'.length = ε.length → Same F F' → (∀ j, j ∉ ts → σ'[j]? = σ[j]?) → Q ε' → QH σ' H'
theorem AE.up {X : Cx} {e : Expr} {t : TEA} (h : AE X e t) : PE X e (upE X.K t) := by
  obtain ⟨_, p, q⟩ := h.ex
  exact ⟨fun pins s σ H Q I ⟨E, F, φ, ε, τ, Q', S, h, k⟩ => p.run pins s σ H Q I (q E F φ ε σ H τ Q' Q S h k)⟩
theorem AT.up {X : Cx} {e : Expr} {t : TTA} (h : AT X e t) : PT X e (upT X.K t) := by
  obtain ⟨_, p, q⟩ := h.ex
  exact ⟨fun pins s σ H Q I ⟨E, F, φ, ε, τ, Q', S, h, k⟩ => p.run pins s σ H Q I (q E F φ ε σ H τ Q' Q S h k)⟩
theorem AG.up {X : Cx} {bp ts : List Nat} {e : Expr} {g : TGA} (h : AG X bp ts e g) : PG X e (upG X.K bp ts g) := by
  obtain ⟨_, p, q⟩ := h.ex
  exact ⟨fun pins s σ H v u Q I r ⟨E, F, φ, ε, τ, w, Q', he, S, h, k⟩ => p.run pins s σ H v u Q I r (q E F φ ε σ H τ w v Q' Q he S h k)⟩
/-- tests behind a for -/
structure ATs (X : Cx) (cs : List Expr) (t : TTA) : Prop where
  run : PTs X cs (upT X.K t)
def tYesA : TTA := fun ε Q => Q true ε
theorem ats_nil {X : Cx} : ATs X [] tYesA := ⟨⟨fun pins s σ H Q I ⟨E, F, φ, ε, τ, Q', S, h, k⟩ => pts_nil.run pins s σ H Q I (k true F φ ε H S h)⟩⟩
theorem ats_one {X : Cx} {c : Expr} {t : TTA} (h : AT X c t) : ATs X [c] t := ⟨pts_one h.up⟩

section
variable {X : Cx}
def tComp (vs : List Nat) (ti : TIA) (g : TGA) (tt : TTA) (te : TEA) : TEA := fun ε Q => ti ε fun rv ds ε1 => ∃ (w : W) (Pv : Nat → List W → Env → Prop), cnt ε1 rv = some w ∧ (∀ i, rv = .sl i → i ∉ vs) ∧ Pv 0 [] (wipeW ε1 vs) ∧ (∀ i acc ε, i ≤ ds.length → Pv i acc ε → cnt ε rv = some w) ∧
  (∀ i d acc ε, ds[i]? = some d → Pv i acc ε → g (.d d) ε fun ε2 => tt ε2 fun b ε3 => if b = true then te ε3 fun y ε4 => ∃ wy ε5, Tak y ε4 wy ε5 ∧ acc.length < sizeLine ∧ Pv (i + 1) (acc ++ [wy]) (wipeW ε5 vs) else Pv (i + 1) acc (wipeW ε3 vs)) ∧
  (∀ acc ε, Pv ds.length acc ε → ∃ ε', bck rv ε = some ε' ∧ Q (.v (.lst acc)) (restW ε1 vs ε'))
theorem lc_core {vs ts : List Nat} {wi : TI} {ti : TIA} {g : TGA} {tt : TTA} {te : TEA}
    (qi : ∀ (E : Ent) F φ ε σ H τ (R : EV → List PyData → Env → Prop) (RH : It → Hp → Prop), Sta X.K E F φ ε σ H τ → ti ε R →
      (∀ rv v w ds J F' φ' ε' H', Sta X.K E F' φ' ε' σ H' (evT rv v τ) → evOk rv σ v → cnt ε' rv = some w → DataIt X.K J ds (fun F H => ∃ A, Rep X.K F H w v A) → R rv ds ε' → RH J H') → wi σ H RH)
    (hts : ∀ j ∈ ts, j ∈ vs) {E : Ent} {F H : Hp} {φ : Addr → Option Nat} {ε : Env} {σ : L2.St} {τ : List (W × V)} {Q : EV → Env → Prop} {QH : VK} (S : Sta X.K E F φ ε σ H τ) (h : tComp vs ti g tt te ε Q)
    (k : ∀ rv v F' φ' ε' H', Sta X.K E F' φ' ε' σ H' (evT rv v τ) → evOk rv σ v → Q rv ε' → QH v H') : tLc wi (upG X.K [] ts g) (upT X.K tt) (upE X.K te) vs σ H QH := by
  refine qi E F φ ε σ H τ _ _ S h fun rv v w0 ds J F1 φ1 ε1 H1 S1 ok c0 it h1 => ?_
  obtain ⟨w, Pv, c, hnv, p0, keep, turn, fin⟩ := h1
  rw [c0] at c
  cases c
  intro D hD
  have okk : evOk rv (wipe σ vs) v := by
    cases rv with
    | v w => exact True.intro
    | fl i p u w => exact ok
    | sl i =>
      show (wipe σ vs)[i]? = some (some v)
      rw [wipe_out (hnv i rfl)]
      exact ok
  refine ⟨fun i m H => m = ds.length - i ∧ i ≤ ds.length ∧ ∃ F φ ε acc, Sta X.K (E.blk F1) F φ ε (wipe σ vs) H (evT rv v τ ++ [(W.lst acc, V.ref D)]) ∧ Pv i acc ε, ?_, ?_⟩
  · obtain ⟨φ2, S2⟩ := (S1.blk vs).new (New.lst (K := X.K) (F := F1) (ds := []) hD (by rw [dqs_nil]))
    exact ⟨ds.length, by simp, Nat.zero_le _, F1, φ2, _, [], S2, p0⟩
  rintro i m H2 ⟨rfl, hi, F2, φ2, ε2, acc, S2, p2⟩
  obtain ⟨A, r, _, _⟩ := Sta.view (Sta.drop S2) okk (keep i acc ε2 hi p2)
  by_cases hlt : i < ds.length
  · refine .inr ⟨it.go i F2 H2 hlt S2.sub ⟨A, r⟩, fun H => ∃ F φ ε acc, Sta X.K (E.blk F1) F φ ε (wipe σ vs) H (evT rv v τ ++ [(W.lst acc, V.ref D)]) ∧ Pv (i + 1) acc ε, fun H' ⟨F3, φ3, ε3, acc3, S3, p3⟩ => ⟨ds.length - (i + 1), by omega, rfl, hlt, F3, φ3, ε3, acc3, S3, p3⟩, fun x H3 y => ?_⟩
    obtain ⟨F3, n⟩ := it.yld i ds[i] F2 H2 x H3 (by simp [hlt]) S2.sub ⟨A, r⟩ y
    obtain ⟨φ3, S3⟩ := S2.new n
    refine ⟨E.blk F1, F3, φ3, ε2, _, _, _, rfl, S3, turn i ds[i] acc ε2 (by simp [hlt]) p2, fun F4 φ4 ε4 σ4 H4 S4 l4 _ g4 h4 => ⟨?_, ?_⟩⟩
    · have hw := wipe_ext (σ := wipe σ vs) (σ' := σ4) (by rw [← S4.len, l4, S3.len]) (vs := vs) (fun j hj => g4 j fun z => hj (hts j z))
      rw [hw]
      exact wipe_ext (wipe_length _ _) fun j hj => wipe_out hj
    have hws : wipe σ4 vs = wipe σ vs := by
      have hw := wipe_ext (σ := wipe σ vs) (σ' := σ4) (by rw [← S4.len, l4, S3.len]) (vs := vs) (fun j hj => g4 j fun z => hj (hts j z))
      rw [hw]
      exact wipe_ext (wipe_length _ _) fun j hj => wipe_out hj
    refine ⟨E.blk F1, F4, φ4, ε4, _, _, S4, h4, fun b F5 φ5 ε5 H5 S5 h5 => ?_⟩
    cases b with
    | false =>
      rw [if_neg (by simp)] at h5 ⊢
      have S6 := S5.wipe vs
      rw [hws] at S6
      exact ⟨F5, φ5, _, acc, S6, h5⟩
    | true =>
      rw [if_pos rfl] at h5 ⊢
      refine ⟨E.blk F1, F5, φ5, ε5, _, _, S5, h5, fun rv' y F6 φ6 ε6 H6 S6 ok6 h6 => ?_⟩
      obtain ⟨wy, ε7, tk, hl, h7⟩ := h6
      obtain ⟨F7, φ7, S7⟩ := S6.take ok6 tk
      have S7' : Sta X.K (E.blk F1) F7 φ7 ε7 σ4 H6 (evT rv v τ ++ [(W.lst acc, V.ref D)] ++ [(wy, y)]) := S7
      obtain ⟨B, rB, nB, hB⟩ := S7'.tmp (evT rv v τ ++ [(W.lst acc, V.ref D)]).length wy y getE_last
      obtain ⟨A', rA, nA, hA⟩ := (Sta.drop S7').tmp (evT rv v τ).length _ _ getE_last
      rw [rep_lst] at rA
      obtain ⟨a, us, C, e, rfl, ha, rC⟩ := rA
      cases e
      have sep : ∀ b ∈ D :: C, b ∉ B := fun b hb z => by
        have q := hA b hb
        rw [hB b z] at q
        have q := Option.some.inj q
        simp at q
      have na : ∀ b, b ∈ C ∨ b ∈ B → b ≠ D := fun b hb e => by
        subst e
        rcases hb with z | z
        · exact (List.nodup_cons.mp nA).1 z
        · exact sep b List.mem_cons_self z
      have nd : (D :: (C ++ B)).Nodup := List.nodup_cons.mpr ⟨fun z => (List.mem_append.mp z).elim (fun z => na D (.inl z) rfl) (fun z => na D (.inr z) rfl), List.nodup_append.mpr ⟨(List.nodup_cons.mp nA).2, nB, fun b hb d hd e => sep b (List.mem_cons_of_mem _ hb) (e ▸ hd)⟩⟩
      refine ⟨us, ha, by rw [rC.len]; exact hl, ?_⟩
      obtain ⟨φ8, S8⟩ := Sta.mutT (ws := [wy]) (vs := [y]) (A := D :: C) (B := B) (res := .d .none) (u := .non) (Ar := []) (w' := .lst (acc ++ [wy])) (A' := D :: (C ++ B)) (H' := upd H6 D (.lst (us ++ [y]))) S7' hA (fun b hb => ⟨_, hB b hb, by simp⟩)
        (fun b hb => upd_ne fun e => hb (by rw [e]; exact List.mem_cons_self)) (fun b h => by
          by_cases z : b = D
          · rw [z, upd_same] at h; cases h
          · rw [upd_ne z] at h; exact h) (by rw [rep_d, dq_none]; exact ⟨rfl, rfl⟩) (by
          rw [rep_lst]
          exact ⟨D, us ++ [y], C ++ B, rfl, rfl, upd_same, Reps.snoc (Rep.keep (Same.refl _) _ _ _ (fun b hb => upd_ne (na b (.inr hb))) rB) (Reps.keep (Same.refl _) _ _ _ (fun b hb => upd_ne (na b (.inl hb))) rC)⟩) (by simpa using nd) (fun b hb => by
          simp at hb ⊢
          rcases hb with z | z | z
          · exact .inl (.inl z)
          · exact .inl (.inr z)
          · exact .inr z)
      obtain ⟨φ9, S9⟩ := Sta.swap S8
      have S10 := (Sta.drop S9).wipe vs
      rw [hws] at S10
      exact ⟨F7, φ9, _, _, S10, h7⟩
  · have e : i = ds.length := by omega
    subst e
    obtain ⟨ε', b, hq⟩ := fin acc ε2 p2
    obtain ⟨φ3, S3⟩ := Sta.backU S2 okk b
    refine .inl ⟨it.stop _ F2 H2 (Nat.le_refl _) S2.sub ⟨A, r⟩, k (.v (.lst acc)) (.ref D) F2 φ3 _ H2 (Sta.rest S1 S3) True.intro hq⟩
section
variable {elt tg iter : Expr} {ifs : List Expr} {scope : Scope} {own : List (Str × Nat)} {pos spos : Pos} {ti : TIA} {g : TGA} {tt : TTA} {te : TEA} {ts : List Nat} {y : Str} {py : Pos} {bp : List Nat} {i : Nat}
theorem ae_lc (hc : X.calm = true) (hN : X.N.Nodup) (hi : AI X tg iter ti) (ok : BlkOk X.N X.env.scope scope own)
    (hg : ∀ (s : Shared) (H : Hp) (C : Addr) (cl : List (Str × Addr)) (fp : List Addr), AG (X.blk s H scope (compEnvC scope cl C X.env) fp) [] ts tg g)
    (ht : ∀ (s : Shared) (H : Hp) (C : Addr) (cl : List (Str × Addr)) (fp : List Addr), ATs (X.blk s H scope (compEnvC scope cl C X.env) fp) ifs tt)
    (he : ∀ (s : Shared) (H : Hp) (C : Addr) (cl : List (Str × Addr)) (fp : List Addr), AE (X.blk s H scope (compEnvC scope cl C X.env) fp) elt te)
    (hts : ∀ j ∈ ts, j ∈ own.map (·.2) := by decide) (hs : ∀ x, foldedSetIterable iter X.env x = pure x := by intro _; rfl) :
    AE X (.ListComp elt [⟨tg, iter, ifs, 0⟩] scope pos) (tComp (own.map (·.2)) ti g tt te) := by
  obtain ⟨_, pi, qi⟩ := hi.ex
  exact ⟨_, pe_lc (g := upG X.K [] ts g) (tt := upT X.K tt) (te := upE X.K te) hc hN pi ok (fun s H C cl fp => (hg s H C cl fp).up) (fun s H C cl fp => (ht s H C cl fp).run) (fun s H C cl fp => (he s H C cl fp).up) hs, fun E F φ ε σ H τ Q QH S h k => lc_core qi hts S h k⟩
theorem as_setLc (hc : X.calm = true) (hN : X.N.Nodup) (hy : X.N[i]? = some y) (hyl : X.env.scope.names.lookup y = some .local) (hsw : swapsWith (.ListComp elt [⟨tg, iter, ifs, 0⟩] scope pos) (some (.Name y py)) spos.line X.env = pure true)
    (hi : AI X tg iter ti) (ok : BlkOk X.N X.env.scope scope own)
    (hg : ∀ (s : Shared) (H : Hp) (C : Addr) (cl : List (Str × Addr)) (fp : List Addr), AG (X.blk s H scope (compEnvC scope cl C X.env) fp) [] ts tg g)
    (ht : ∀ (s : Shared) (H : Hp) (C : Addr) (cl : List (Str × Addr)) (fp : List Addr), ATs (X.blk s H scope (compEnvC scope cl C X.env) fp) ifs tt)
    (he : ∀ (s : Shared) (H : Hp) (C : Addr) (cl : List (Str × Addr)) (fp : List Addr), AE (X.blk s H scope (compEnvC scope cl C X.env) fp) elt te)
    (hts : ∀ j ∈ ts, j ∈ own.map (·.2) := by decide) (hb : i ∉ bp := by decide) (hs : ∀ x, foldedSetIterable iter X.env x = pure x := by intro _; rfl) :
    AS X bp (.Assign [.Name y py] (.ListComp elt [⟨tg, iter, ifs, 0⟩] scope pos) spos) (tAsg (tComp (own.map (·.2)) ti g tt te) (gName i)) := by
  obtain ⟨_, pi, qi⟩ := hi.ex
  refine ⟨_, ps_setLc (g := upG X.K [] ts g) (tt := upT X.K tt) (te := upE X.K te) hc hN hy hyl hsw pi ok (fun s H C cl fp => (hg s H C cl fp).up) (fun s H C cl fp => (ht s H C cl fp).run) (fun s H C cl fp => (he s H C cl fp).up) hs, fun E F φ ε σ H τ D DH hE S h f => ?_⟩
  subst hE
  refine lc_core qi hts S h fun rv v F1 φ1 ε1 H1 S1 ok1 h1 => ?_
  obtain ⟨w, ε2, tk, hl, h2⟩ := h1
  obtain ⟨F2, φ2, S2⟩ := S1.take ok1 tk
  obtain ⟨φ3, S3⟩ := S2.store hl hb
  exact f.nx F2 φ3 _ _ H1 S3 h2
end
end
end Ab

namespace Ab
open PySem PySem.Spec PyProof.Rows L2

/-! ## several stores -/
def setsW (ε : Env) : List Nat → List W → Env
  | i :: is, w :: ws => setsW (ε.set i (some w)) is ws
  | _, _ => ε
def setsV (σ : L2.St) : List Nat → List V → L2.St
  | i :: is, v :: vs => setsV (σ.set i (some v)) is vs
  | _, _ => σ
section
variable {K : PySem.W.Frag} {E : Ent} {F F' H H' : Hp} {φ φ' : Addr → Option Nat} {ε ε' : Env} {σ σ' : L2.St} {τ τ' r : List (W × V)} {rv : EV} {v : V} {w : W}
/-- an object that nobody holds -/
theorem Sta.junk {p : Addr} {o : HO} (S : Sta K E F φ ε σ H τ) (hp : H p = none) : Sta K E F φ ε σ (upd H p o) τ := by
  have np : ∀ a i, φ a = some i → a ≠ p := fun a i h e => (S.own a i h).2.1 (e ▸ hp)
  refine { S with sub := fun b o' h => ?_, old := fun b o' h hm => ?_, pre := fun b h => ?_, own := fun b i h => ?_, slot := fun i w h => ?_, tmp := fun j w v h => ?_ }
  · have q := S.sub b o' h
    rw [upd_ne (fun e => by rw [e, hp] at q; cases q)]
    exact q
  · have q := S.old b o' h hm
    rw [upd_ne (fun e => by rw [e, hp] at q; cases q)]
    exact q
  · by_cases z : b = p
    · rw [z, upd_same] at h; cases h
    · rw [upd_ne z] at h; exact S.pre b h
  · obtain ⟨h1, h2, h3⟩ := S.own b i h
    exact ⟨h1, by rw [upd_ne (np b i h)]; exact h2, h3⟩
  · obtain ⟨v, A, e, r, nd, hA⟩ := S.slot i w h
    exact ⟨v, A, e, Rep.keep (Same.refl _) w v A (fun a ha => upd_ne (np a i (hA a ha))) r, nd, hA⟩
  · obtain ⟨A, r, nd, hA⟩ := S.tmp j w v h
    exact ⟨A, Rep.keep (Same.refl _) w v A (fun a ha => upd_ne (np a _ (hA a ha))) r, nd, hA⟩
/-- a row below others is stored -/
theorem Sta.storeAt {i : Nat} (S : Sta K E F φ ε σ H (τ ++ (w, v) :: r)) (hi : i < ε.length) (hb : i ∉ E.bp) : ∃ φ', Sta K E F φ' (ε.set i (some w)) (σ.set i (some v)) H (τ ++ r) := by
  have hw : (τ ++ (w, v) :: r)[τ.length]? = some (w, v) := by rw [List.getElem?_append_right (Nat.le_refl _)]; simp
  obtain ⟨A, rA, nd, hA⟩ := S.tmp τ.length w v hw
  let φ' : Addr → Option Nat := fun a => if a ∈ A then some i else match φ a with
    | some k => if k = i then none else if k = ε.length + τ.length then none else if ε.length + τ.length < k then some (k - 1) else some k
    | none => none
  have out : ∀ a k, φ a = some k → k ≠ ε.length + τ.length → a ∉ A := fun a k h n z => n (Option.some.inj (h.symm.trans (hA a z)))
  refine ⟨φ', S.step (R := fun k => k ≠ i ∧ k < ε.length + τ.length) (Stp.tag S (fun a j h hj => ?_) fun a j h => ?_) (by rw [List.length_set, List.length_set]; exact S.len) (List.length_set ..) (fun j hj => ?_) (fun j w' h' => ?_) fun j w' v' h' => ?_⟩
  · show (if a ∈ A then some i else match φ a with
      | some k => if k = i then none else if k = ε.length + τ.length then none else if ε.length + τ.length < k then some (k - 1) else some k
      | none => none) = some j
    have hj1 : j < ε.length + τ.length := hj.2
    rw [if_neg (out a j h (by omega)), h]
    show (if j = i then none else if j = ε.length + τ.length then none else if ε.length + τ.length < j then some (j - 1) else some j) = some j
    rw [if_neg hj.1, if_neg (by omega), if_neg (by omega)]
  · have h : (if a ∈ A then some i else match φ a with
      | some k => if k = i then none else if k = ε.length + τ.length then none else if ε.length + τ.length < k then some (k - 1) else some k
      | none => none) = some j := h
    by_cases z : a ∈ A
    · exact ⟨_, hA a z⟩
    · rw [if_neg z] at h
      cases q : φ a with
      | none => rw [q] at h; cases h
      | some k => exact ⟨k, rfl⟩
  · rw [List.getElem?_set_ne (fun e => hb (by rw [e]; exact hj))]
    exact S.fix j hj
  · rcases set_get h' with ⟨rfl, e⟩ | ⟨ne, h'⟩
    · cases e
      refine .inr ⟨v, A, by rw [List.getElem?_set_self (by rw [← S.len]; exact hi)], rA, nd, fun a ha => ?_⟩
      show (if a ∈ A then some j else _) = some j
      rw [if_pos ha]
    · obtain ⟨hj, _⟩ := List.getElem?_eq_some_iff.mp h'
      exact .inl ⟨⟨ne, by omega⟩, h', List.getElem?_set_ne (Ne.symm ne)⟩
  · by_cases hj : j < τ.length
    · rw [List.getElem?_append_left hj] at h'
      exact .inl ⟨⟨by omega, by omega⟩, by rw [List.getElem?_append_left hj]; exact h'⟩
    · rw [List.getElem?_append_right (by omega)] at h'
      have h2 : (τ ++ (w, v) :: r)[j + 1]? = some (w', v') := by
        rw [List.getElem?_append_right (by omega), show j + 1 - τ.length = (j - τ.length) + 1 by omega, List.getElem?_cons_succ]
        exact h'
      obtain ⟨B, rB, nB, hB⟩ := S.tmp (j + 1) w' v' h2
      refine .inr ⟨B, rB, nB, fun a ha => ?_⟩
      show (if a ∈ A then some i else match φ a with
        | some k => if k = i then none else if k = ε.length + τ.length then none else if ε.length + τ.length < k then some (k - 1) else some k
        | none => none) = some (ε.length + j)
      rw [if_neg (out a _ (hB a ha) (by omega)), hB a ha]
      show (if ε.length + (j + 1) = i then none else if ε.length + (j + 1) = ε.length + τ.length then none else if ε.length + τ.length < ε.length + (j + 1) then some (ε.length + (j + 1) - 1) else some (ε.length + (j + 1))) = some (ε.length + j)
      rw [if_neg (by omega), if_neg (by omega), if_pos (by omega)]
      congr 1
theorem Sta.stores : ∀ {is : List Nat} {ws : List W} {vs : List V} {φ : Addr → Option Nat} {ε : Env} {σ : L2.St}, Sta K E F φ ε σ H (τ ++ ws.zip vs) → vs.length = ws.length → is.length = ws.length → (∀ i ∈ is, i < ε.length) → (∀ i ∈ is, i ∉ E.bp) →
    ∃ φ', Sta K E F φ' (setsW ε is ws) (setsV σ is vs) H τ
  | [], [], [], φ, ε, σ, S, _, _, _, _ => ⟨φ, by simpa [setsW, setsV] using S⟩
  | i :: is, w :: ws, v :: vs, φ, ε, σ, S, l1, l2, h, hb => by
    obtain ⟨φ1, S1⟩ := Sta.storeAt (r := ws.zip vs) (by simpa using S) (h i List.mem_cons_self) (hb i List.mem_cons_self)
    exact Sta.stores (is := is) (ws := ws) (vs := vs) S1 (by simpa using l1) (by simpa using l2) (fun j hj => by rw [List.length_set]; exact h j (List.mem_cons_of_mem _ hj)) (fun j hj => hb j (List.mem_cons_of_mem _ hj))
  | [], _ :: _, _, _, _, _, _, _, l, _, _ => by cases l
  | _ :: _, [], _, _, _, _, _, _, l, _, _ => by cases l
  | [], [], _ :: _, _, _, _, _, l, _, _, _ => by cases l
  | _ :: _, _ :: _, [], _, _, _, _, l, _, _, _ => by cases l
end

theorem len2 {α : Type} {l : List α} (h : l.length = 2) : ∃ a b, l = [a, b] := by
  match l, h with
  | [a, b], _ => exact ⟨a, b, rfl⟩
theorem len3 {α : Type} {l : List α} (h : l.length = 3) : ∃ a b c, l = [a, b, c] := by
  match l, h with
  | [a, b, c], _ => exact ⟨a, b, c, rfl⟩
section
variable {X : Cx} {bp : List Nat} {es tgs : List Expr} {t : TAA} {pos pt pt2 : Pos}
def tParA (is : List Nat) (t : TAA) : TSA := fun D ε => t ε fun xs ε1 => ∃ ws : List W, xs = ws.map EV.v ∧ is.length = ws.length ∧ (∀ i ∈ is, i < ε1.length) ∧ D.nx (setsW ε1 is ws)
theorem as_par {i j : Nat} {x y : Str} {a b : Expr} {px py : Pos} {kt k2} (hc : X.calm = true) (hN : X.N.Nodup) (hi : X.N[i]? = some x) (hj : X.N[j]? = some y) (hij : i ≠ j)
    (hx : X.env.scope.names.lookup x = some .local) (hy : X.env.scope.names.lookup y = some .local) (ha : AA X [a, b] t)
    (hw : swappedStores [.Tuple [.Name x px, .Name y py] kt pt] (.Tuple [a, b] k2 pt2) X.env = pure (some [x, y])) (hb : ∀ k ∈ [i, j], k ∉ bp := by decide)
    (hs : swapsWithSole [.Tuple [.Name x px, .Name y py] kt pt] (.Tuple [a, b] k2 pt2) pos.line X.env = pure false := by rfl) :
    AS X bp (.Assign [.Tuple [.Name x px, .Name y py] kt pt] (.Tuple [a, b] k2 pt2) pos) (tParA [i, j] t) := by
  obtain ⟨_, p, q⟩ := ha.ex
  refine ⟨_, ps_par hc hN hi hj hij hx hy p hw hs, fun E F φ ε σ H τ D DH he S h f => ?_⟩
  subst he
  refine q E F φ ε σ H τ _ _ S h fun xs vs F1 φ1 ε1 H1 S1 ok h1 => ?_
  obtain ⟨ws, rfl, hl, hlt, h2⟩ := h1
  obtain ⟨e, l⟩ := evTs_v (τ := τ) ok
  rw [e] at S1
  obtain ⟨φ2, S2⟩ := S1.stores l hl hlt hb
  obtain ⟨v, w, rfl⟩ := len2 (l.trans hl.symm)
  exact ⟨v, w, rfl, f.nx F1 φ2 _ _ H1 S2 h2⟩
theorem as_par3 {i j l : Nat} {x y z : Str} {a b c : Expr} {px py pz : Pos} {kt k2} (hc : X.calm = true) (hN : X.N.Nodup) (hi : X.N[i]? = some x) (hj : X.N[j]? = some y) (hl : X.N[l]? = some z) (hij : i ≠ j) (hil : i ≠ l) (hjl : j ≠ l)
    (hx : X.env.scope.names.lookup x = some .local) (hy : X.env.scope.names.lookup y = some .local) (hz : X.env.scope.names.lookup z = some .local) (ha : AA X [a, b, c] t)
    (hw : swappedStores [.Tuple [.Name x px, .Name y py, .Name z pz] kt pt] (.Tuple [a, b, c] k2 pt2) X.env = pure (some [x, y, z])) (hb : ∀ k ∈ [i, j, l], k ∉ bp := by decide)
    (hs : swapsWithSole [.Tuple [.Name x px, .Name y py, .Name z pz] kt pt] (.Tuple [a, b, c] k2 pt2) pos.line X.env = pure false := by rfl) :
    AS X bp (.Assign [.Tuple [.Name x px, .Name y py, .Name z pz] kt pt] (.Tuple [a, b, c] k2 pt2) pos) (tParA [i, j, l] t) := by
  obtain ⟨_, p, q⟩ := ha.ex
  refine ⟨_, ps_par3 hc hN hi hj hl hij hil hjl hx hy hz p hw hs, fun E F φ ε σ H τ D DH he S h f => ?_⟩
  subst he
  refine q E F φ ε σ H τ _ _ S h fun xs vs F1 φ1 ε1 H1 S1 ok h1 => ?_
  obtain ⟨ws, rfl, hl, hlt, h2⟩ := h1
  obtain ⟨e, l⟩ := evTs_v (τ := τ) ok
  rw [e] at S1
  obtain ⟨φ2, S2⟩ := S1.stores l hl hlt hb
  obtain ⟨u, v, w, rfl⟩ := len3 (l.trans hl.symm)
  exact ⟨u, v, w, rfl, f.nx F1 φ2 _ _ H1 S2 h2⟩
/-- names, one after another -/
structure AN (X : Cx) (is : List Nat) (tgs : List Expr) : Prop where
  ex : ∃ g : TGs, PGs X tgs g ∧ ∀ vs σ H QH, vs.length = is.length → QH (setsV σ is vs) H → g vs σ H QH
theorem an_nil : AN X [] [] := ⟨_, pgs_nil, fun vs σ H QH l h => by
  match vs, l, h with
  | [], _, h => exact ⟨rfl, h⟩⟩
theorem an_cons {i : Nat} {is : List Nat} {x : Str} {px : Pos} (hN : X.N.Nodup) (hi : X.N[i]? = some x) (hx : Loc X.env.scope x) (h : AN X is tgs) (hf : X.fn x = true ∨ X.env.scope.names.lookup x = some .local := by first | exact .inl rfl | exact .inr rfl | assumption)
    (hs : (assignEach (.Name x px :: tgs) X.env).map (·.2) = assign (.Name x px) X.env :: (assignEach tgs X.env).map (·.2) := by rfl) : AN X (i :: is) (.Name x px :: tgs) := by
  obtain ⟨_, p, q⟩ := h.ex
  refine ⟨_, pgs_cons (pg_name hN hi hx hf) p hs, fun vs σ H QH l h => ?_⟩
  match vs, l, h with
  | v :: vs, l, h => exact ⟨v, vs, rfl, q vs _ H QH (by simpa using l) h⟩
/-- … through a tuple -/
theorem as_parT {is : List Nat} {n : Nat} {kt k2} (hc : X.calm = true) (hn : AN X is tgs) (ha : AA X es t) (hb : ∀ k ∈ is, k ∉ bp := by decide)
    (hs : swapsWithSole [.Tuple tgs kt pt] (.Tuple es k2 pt2) pos.line X.env = pure false := by rfl) (hw : swappedStores [.Tuple tgs kt pt] (.Tuple es k2 pt2) X.env = pure none := by rfl)
    (h1 : (assignEach [.Tuple tgs kt pt] X.env).map (·.2) = [assign (.Tuple tgs kt pt) X.env] := by rfl) (hl : (assignEach tgs X.env).length = n := by rfl) (hi : is.length = n := by rfl) (hst : (assignEach tgs X.env).findIdx? (·.1) = none := by rfl) (hz : n ≤ sizeLine := by decide) :
    AS X bp (.Assign [.Tuple tgs kt pt] (.Tuple es k2 pt2) pos) (tParA is t) := by
  obtain ⟨_, p, q⟩ := ha.ex
  obtain ⟨_, pn, qn⟩ := hn.ex
  refine ⟨_, ps_asg (pe_tup p) (pg_tup hc pn hl hst) hs hw h1, fun E F φ ε σ H τ D DH he S h f => ?_⟩
  subst he
  refine q E F φ ε σ H τ _ _ S h fun xs vs F1 φ1 ε1 H1 S1 ok h1 => ?_
  obtain ⟨ws, rfl, hl, hlt, h2⟩ := h1
  obtain ⟨e, l⟩ := evTs_v (τ := τ) ok
  rw [e] at S1
  refine ⟨by omega, fun a ha => ?_⟩
  obtain ⟨φ2, S2⟩ := (S1.junk (o := .tup vs) ha).stores l hl hlt hb
  exact ⟨a, vs, rfl, SqT.of upd_same, by omega, qn vs σ _ _ (by omega) (f.nx F1 φ2 _ _ _ S2 h2)⟩
end

/-! ## list items stored -/
section
variable {K : PySem.W.Frag} {E : Ent} {F F' H H' : Hp} {φ φ' : Addr → Option Nat} {ε ε' : Env} {σ σ' : L2.St} {τ τ' : List (W × V)}
theorem Sta.up (S : Sta K E F φ ε σ H τ) : Sta K { E with F0 := F } F φ ε σ H τ := { S with ext := Same.refl _, fnew := fun b h => .inl h }
theorem Sta.down {φ1 : Addr → Option Nat} {ε1 : Env} {σ1 : L2.St} {H1 : Hp} {τ1 : List (W × V)} (S1 : Sta K E F φ1 ε1 σ1 H1 τ1) (S : Sta K { E with F0 := F } F' φ ε σ H τ) : Sta K E F' φ ε σ H τ :=
  { S with ext := fun b o h => S.ext b o (S1.ext b o h), fnew := fun b h => (S.fnew b h).elim (fun h => S1.fnew b h) (fun h => .inr h) }
theorem Reps.put {w : W} {v : V} {B : List Addr} (h : Rep K F H w v B) : ∀ {j : Nat} {ws : List W} {vs : List V} {A : List Addr}, Reps K F H ws vs A → j < ws.length → (A ++ B).Nodup →
    ∃ A', Reps K F H (ws.set j w) (vs.set j v) A' ∧ A'.Nodup ∧ ∀ a ∈ A', a ∈ A ∨ a ∈ B
  | j, [], vs, A, r, hj, nd => by simp at hj
  | 0, y :: ws, vs, A, r, hj, nd => by
    rw [reps_cons] at r
    obtain ⟨u, us, C, D, rfl, rfl, p, q⟩ := r
    rw [List.append_assoc, List.nodup_append] at nd
    obtain ⟨m1, m2, m3⟩ := List.nodup_append.mp nd.2.1
    refine ⟨B ++ D, by rw [List.set_cons_zero, List.set_cons_zero, reps_cons]; exact ⟨v, us, B, D, rfl, rfl, h, q⟩, List.nodup_append.mpr ⟨m2, m1, fun a ha b hb e => m3 b hb a ha e.symm⟩, fun a ha => ?_⟩
    rcases List.mem_append.mp ha with z | z
    · exact .inr z
    · exact .inl (List.mem_append_right _ z)
  | j + 1, y :: ws, vs, A, r, hj, nd => by
    rw [reps_cons] at r
    obtain ⟨u, us, C, D, rfl, rfl, p, q⟩ := r
    rw [List.append_assoc, List.nodup_append] at nd
    obtain ⟨n1, n2, n3⟩ := nd
    obtain ⟨A', a1, a2, a3⟩ := Reps.put h (j := j) q (by simpa using hj) n2
    refine ⟨C ++ A', by rw [List.set_cons_succ, List.set_cons_succ, reps_cons]; exact ⟨u, us.set j v, C, A', rfl, rfl, p, a1⟩, List.nodup_append.mpr ⟨n1, a2, fun a ha b hb e => ?_⟩, fun a ha => ?_⟩
    · rcases a3 b hb with z | z
      · exact n3 a ha b (List.mem_append_left _ z) e
      · exact n3 a ha b (List.mem_append_right _ z) e
    · rcases List.mem_append.mp ha with z | z
      · exact .inl (List.mem_append_left _ z)
      · rcases a3 a z with y | y
        · exact .inl (List.mem_append_right _ y)
        · exact .inr y
end
section
variable {X : Cx} {bp : List Nat} {o i e : Expr} {to ti te : TEA} {pos pos' : Pos}
def gIx (to ti : TEA) : TGA := fun w ε Q => to ε fun x ε1 => ti ε1 fun y ε2 => ∃ (k : Nat) (n : Int) (j : Nat) (ws : List W), x = .sl k ∧ y = .v (.d (.int n)) ∧ ε2[k]? = some (some (.lst ws)) ∧ ixN ws.length n = some j ∧ Q (ε2.set k (some (.lst (ws.set j w))))
theorem ag_ix (ho : AE X o to) (hi : AE X i ti)
    (ha : ∀ v, assign (.Subscript o i pos) X.env v = (do
      let ov ← holding [v] (eval o X.env)
      let iv ← holding [v, ov] (eval i X.env)
      standAt pos
      holding [v, ov, iv] (setItem ov iv v)
      release [v, ov, iv] []) := by intro _; rfl) : AG X bp [] (.Subscript o i pos) (gIx to ti) := by
  obtain ⟨_, po, qo⟩ := ho.ex
  obtain ⟨_, pi, qi⟩ := hi.ex
  refine ⟨_, pg_sub po pi set_list ha, fun E F φ ε σ H τ w v Q QH he S h k => ?_⟩
  refine qo { E with F0 := F } F φ ε σ H (τ ++ [(w, v)]) _ _ S.up h fun x vx F1 φ1 ε1 H1 S1 ok1 h1 => ?_
  refine qi { E with F0 := F } F1 φ1 ε1 σ H1 _ _ _ S1 h1 fun y vy F2 φ2 ε2 H2 S2 ok2 h2 => ?_
  obtain ⟨m, n, j, ws, rfl, rfl, c, hj, hq⟩ := h2
  obtain ⟨dy, S3⟩ := one_v S2
  rw [dq_int] at dy
  have S3 : Sta X.K { E with F0 := F } F2 φ2 ε2 σ H2 (τ ++ [(w, v)]) := S3
  have ok1 : σ[m]? = some (some vx) := ok1
  obtain ⟨v', A, e1, rA, nA, hA⟩ := S3.slot m _ c
  rw [ok1] at e1
  cases e1
  rw [rep_lst] at rA
  obtain ⟨a, us, C, rfl, rfl, hx, rC⟩ := rA
  obtain ⟨B, rB, nB, hB⟩ := S3.tmp τ.length w v getE_last
  obtain ⟨hm, _⟩ := List.getElem?_eq_some_iff.mp c
  have sep : ∀ b ∈ a :: C, b ∉ B := fun b hb z => by
    have q := hA b hb
    rw [hB b z] at q
    have q := Option.some.inj q
    omega
  have na : ∀ b, b ∈ C ∨ b ∈ B → b ≠ a := fun b hb e => by
    subst e
    rcases hb with z | z
    · exact (List.nodup_cons.mp nA).1 z
    · exact sep b List.mem_cons_self z
  have nd : (C ++ B).Nodup := List.nodup_append.mpr ⟨(List.nodup_cons.mp nA).2, nB, fun b hb d hd e => sep b (List.mem_cons_of_mem _ hb) (e ▸ hd)⟩
  have hjl : j < ws.length := (ixN_seq hj).2.1
  obtain ⟨A', r', n', s'⟩ := Reps.put (Rep.keep (H' := upd H2 a (.lst (us.set j v))) (Same.refl _) w v B (fun b hb => upd_ne (na b (.inr hb))) rB) (Reps.keep (Same.refl _) ws us C (fun b hb => upd_ne (na b (.inl hb))) rC) hjl nd
  refine ⟨a, us, n, j, rfl, dy, hx, by rw [rC.len]; exact hj, ?_⟩
  obtain ⟨φ4, S4⟩ := Sta.mutS (ws := [w]) (vs := [v]) (A := a :: C) (B := B) (res := .d .none) (u := .non) (Ar := []) (w' := .lst (ws.set j w)) (A' := a :: A') (H' := upd H2 a (.lst (us.set j v))) S3 hm ok1 hA (fun b hb => ⟨_, hB b hb, Nat.le_refl _⟩)
    (fun b hb => upd_ne fun e => hb (by rw [e]; exact List.mem_cons_self)) (fun b h => by
      by_cases z : b = a
      · rw [z, upd_same] at h; cases h
      · rw [upd_ne z] at h; exact h) (by rw [rep_d, dq_none]; exact ⟨rfl, rfl⟩) (by rw [rep_lst]; exact ⟨a, _, A', rfl, rfl, upd_same, r'⟩) (by
      rw [List.nil_append, List.nodup_cons]
      exact ⟨fun z => na a (s' a z) rfl, n'⟩) (fun b hb => by
      rcases List.mem_cons.mp (by simpa using hb) with z | z
      · exact .inl (by rw [z]; exact List.mem_cons_self)
      · rcases s' b z with y | y
        · exact .inl (List.mem_cons_of_mem _ y)
        · exact .inr y)
  exact k F2 φ4 _ σ _ (Sta.drop (S.down S4)) (by rw [List.length_set, S3.len, S.len]) S4.ext (fun _ _ => rfl) hq
end
end Ab

namespace Ab
open PySem PySem.Spec PyProof.Rows L2

/-! ## defs that show values: nothing is being shown around them -/
structure FnG (P : Program) (w : World) (K : PySem.W.Frag) (mg : Str → Option Value) (base : Heap) (k : Nat) (f : Addr) (fd : FuncData) (ps : List Str) (sp : Sp) : Prop where
  len : ∀ vs H Q E, sp vs H Q E → vs.length = ps.length
  run : ∀ (A : Around) (outer : List PySem.Env) (s : Shared) (H : Hp) (args : Args) (us : List Value) (vs : List V) (Q : VK) (E : XK), A.guards = some [] → Room k A → Env0 P w K mg base A outer s H → BindsTo s fd args (ps.zip us) → Vals vs us → sp vs H Q E →
    codeAny (model P w) A (.call (.ref f) args) (CR CX0 outer P w H s Q E) s
section
variable {P : Program} {w : World} {K : PySem.W.Frag} {mg : Str → Option Value} {base : Heap} {j k : Nat} {f : Addr} {fd : FuncData} {ps : List Str} {sp : Sp}
theorem FnG.of (F : FnOk P w K mg base CX0 k f fd ps sp) : FnG P w K mg base k f fd ps sp := ⟨F.len, fun A outer s H args us vs Q E _ => F.run A outer s H args us vs Q E⟩
theorem guards_deeper {A : Around} {env : PySem.Env} : (A.deeper env).guards = A.guards := by
  first | rfl | simp [Around.deeper]
theorem fnG_ok {x qual : Str} {st : Stmt} {N : List Str} (F : Fun K x qual st f fd) (S : FnScope N ps (defScope st)) (len : ∀ vs H Q E, sp vs H Q E → vs.length = ps.length)
    (hbody : ∀ (cdv : Value) (A : Around) (outer : List PySem.Env) (s : Shared) (H : Hp) (vs : List V) (Q : VK) (E : XK), (A.deeper (envOfC qual (defScope st) s.heap.objs.size f cdv)).guards = some [] → Room k (A.deeper (envOfC qual (defScope st) s.heap.objs.size f cdv)) → sp vs H Q E →
      ∃ t, PSs (cxOf CX0 P w K mg base N qual (defScope st) f cdv A outer s H E).nox (defBody st) t ∧ t { nx := fun _ H' => Q .non H', rt := Q } (start N vs) H) : FnG P w K mg base (k + 1) f fd ps sp := by
  obtain ⟨oc, od, kV, doc, pm, an, cdv, ct, osl, rfl, lk, hcd⟩ := F.ex
  refine ⟨len, fun A outer s H args us vs Q E hg hr e0 hb rel h => ?_⟩
  have n := len _ _ _ _ h
  have kin : K.In s.heap := e0.mod.kin.keeps fun b o e => (e0.bs b o e).1
  have nol : s.heap.NoLimit := e0.mod.nolimit.keeps fun b o e => (e0.bs b o e).1
  have kinds : ∀ y ∈ ps.zip us, (defScope st).names.lookup y.1 = some .local ∨ ((defScope st).names.lookup y.1 = some .cell ∧ ((cellsFrom (s.heap.objs.size + 1) (defScope st).names []).lookup y.1).isSome = true) := by
    rintro ⟨y, u⟩ hy
    exact (S.par y (List.of_mem_zip hy).1).imp id fun q => ⟨q, PySem.W.cellsFrom_some _ _ _ (.inl q)⟩
  refine codeAny_call_function hr.depth (kin _ _ lk) rfl S.co S.gen rfl (PySem.W.codeRec_of kin hcd) (hb _ _ _ _ ?_)
  refine wpAny_newFunctionEnv_cells S.kind kinds fun env he s1 hx => ?_
  subst he
  refine ⟨nol.keeps hx.toInCall.keep, codeAny_func ?_⟩
  obtain ⟨t, body, ht⟩ := hbody cdv A outer s H vs Q E (by rw [guards_deeper]; exact hg) (hr.deeper _) h
  have I := inv_start (CX := CX0) (E := E) S hr.hd e0 n rel hx
  refine wpAny_mono (body.nox.run [] s1 (start N vs) H _ I ht) (fun fl s' hs => ?_) fun _ _ hs => hs
  cases fl with
  | next =>
    obtain ⟨_, H', J, q⟩ := hs
    exact ⟨.non, H', J.os, J.bare, J.base, J.hok, rfl, q⟩
  | ret u =>
    obtain ⟨v, _, H', J, rv, q⟩ := hs
    exact ⟨v, H', J.os, J.bare, J.base, J.hok, rv, q⟩
  | brk =>
    obtain ⟨_, _, _, q⟩ := hs
    cases q
  | cont =>
    obtain ⟨_, _, _, q⟩ := hs
    cases q
/-- a def by its body -/
theorem fnAG {x qual : Str} {st : Stmt} {N : List Str} {sp : SpW} (F : Fun K x qual st f fd) (S : FnScope N ps (defScope st)) (bp : List Nat) (len : ∀ ws Q, sp ws Q → ws.length = ps.length)
    (hbody : ∀ (cdv : Value) (A : Around) (outer : List PySem.Env) (s : Shared) (H : Hp) (E : XK), (A.deeper (envOfC qual (defScope st) s.heap.objs.size f cdv)).guards = some [] → Room k (A.deeper (envOfC qual (defScope st) s.heap.objs.size f cdv)) →
      ∃ t, ASs (cxOf CX0 P w K mg base N qual (defScope st) f cdv A outer s H E).nox bp (defBody st) t ∧ ∀ ws Q, sp ws Q → t (endsW bp ws Q) (startW N ws)) : FnG P w K mg base (k + 1) f fd ps (spA K sp) := by
  refine fnG_ok F S (fun vs H Q E h => ?_) fun cdv A outer s H vs Q E hg hr h => ?_
  · obtain ⟨F0, ws, A, _, r, _, _, h⟩ := h
    rw [r.len]
    exact len _ _ h
  · obtain ⟨F0, ws, Ad, sub, r, nd, hA, h⟩ := h
    obtain ⟨t, ht, hb⟩ := hbody cdv A outer s H E hg hr
    obtain ⟨tH, p, q⟩ := ht.ex
    have hN : ws.length ≤ N.length := by
      rw [len _ _ h]
      have e := congrArg List.length S.pre
      rw [List.length_take] at e
      omega
    obtain ⟨φ, S0⟩ := Sta.init (N := N) (bp := bp) hN sub r nd hA
    exact ⟨tH, p, q _ F0 φ _ _ H [] _ _ rfl S0 (hb ws _ h) (fits_end r)⟩
end
section
variable {X : Cx} {j k : Nat} {f : Addr} {fd : FuncData} {ps : List Str} {x : Str} {e : Expr} {es : List Expr} {t : TAA} {p pos : Pos} {sp : SpW}
theorem pe_callG {sp : Sp} {t : TA} {E : XK} (F : FnG X.prog X.w X.K X.mg X.base k f fd ps sp) (hG : X.A.guards = some []) (hr : Room k X.A) (hg : Gl X x) (hm : X.mg x = some (.ref f)) (hk : PySem.W.keepIn X.K (.ref f) = true) (hb : Binds X.K fd ps [])
    (ha : PA X (e :: es) t) (hdb : (x == ("__debug__" : Str)) = false := by decide) (he : starEach (e :: es) X.env = (false, eval e X.env) :: starEach es X.env := by rfl) (hpl : (backTo pos (starEach es X.env)).any (·.1) = false := by rfl) :
    PE X (.Call (.Name x p) (e :: es) [] pos) (L2.tCall sp [] E t) := by
  refine ⟨fun pins s σ H Q I h => wpAny_Call_Name_kw (ld_glob I hg hm ?_ hdb)⟩
  refine PySem.W.callWith_K (h₀ := X.base) I.ok.mod.kin hk (thn (ha.run pos pins s σ H _ I h) fun us s1 ⟨vs, H1, I1, r, q⟩ => ⟨I1.kIn, ?_⟩) he hpl
  have q : sp (vs ++ []) H1 Q E := q
  rw [List.append_nil] at q
  have n : us.length = ps.length := by rw [← r.length]; exact F.len _ _ _ _ q
  have bd := hb s1 us I1.kIn (by rw [List.append_nil]; exact n)
  rw [List.append_nil] at bd
  refine wpAny_call (codeAny_mono (F.run X.A X.stack s1 H1 ⟨us, []⟩ us vs Q E hG hr I1.env0 bd r q) fun res s' hq => ?_)
  cases res with
  | error e => exact False.elim hq
  | ok fl =>
    cases fl with
    | ret u => exact I1.after hq
    | next => exact False.elim hq
    | brk => exact False.elim hq
    | cont => exact False.elim hq
theorem ae_callG (F : FnG X.prog X.w X.K X.mg X.base k f fd ps (spA X.K sp)) (mo : SpW.Mono sp) (hG : X.A.guards = some []) (hr : Room k X.A) (hg : Gl X x) (hm : X.mg x = some (.ref f)) (hk : PySem.W.keepIn X.K (.ref f) = true) (hb : Binds X.K fd ps [])
    (ha : AA X (e :: es) t) (hdb : (x == ("__debug__" : Str)) = false := by decide) (he : starEach (e :: es) X.env = (false, eval e X.env) :: starEach es X.env := by rfl) (hpl : (backTo pos (starEach es X.env)).any (·.1) = false := by rfl) :
    AE X (.Call (.Name x p) (e :: es) [] pos) (tCall sp t) := by
  obtain ⟨_, pa, qa⟩ := ha.ex
  refine ⟨_, pe_callG (E := E0) F hG hr hg hm hk hb pa hdb he hpl, fun E Fz φ ε σ H τ Q QH S h kk => ?_⟩
  refine qa E Fz φ ε σ H τ _ _ S h fun xs vs F1 φ1 ε1 H1 S1 ok h1 => ?_
  obtain ⟨ws, ha, h2⟩ := h1
  rw [List.append_nil]
  exact call_core S1 ok ha h2 mo kk

/-! ## repr -/
inductive ReprR : List W → W → Prop
  | D {w : W} {x : PyData} (h : Rfy w x) (c : x.canLay0 = true) (s : x.showable = true) (z : x.shown.length ≤ sizeLine) (d : x.depth < 64) : ReprR [w] (.d (.str x.shown))
mutual
theorem noDict : ∀ {x : PyData}, x.canLay0 = true → x.hasDict = false
  | .none, _ => by simp only [PyData.hasDict]
  | .bool _, _ => by simp only [PyData.hasDict]
  | .int _, _ => by simp only [PyData.hasDict]
  | .str _, _ => by simp only [PyData.hasDict]
  | .list ds, c => by
    simp only [PyData.canLay0] at c
    simp only [PyData.hasDict]
    exact noDicts c
  | .tuple ds, c => by
    simp only [PyData.canLay0] at c
    simp only [PyData.hasDict]
    exact noDicts c
  | .dict _, c => by simp only [PyData.canLay0] at c; cases c
theorem noDicts : ∀ {xs : List PyData}, PyData.canLayAll0 xs = true → PyData.hasDictAll xs = false
  | [], _ => by simp only [PyData.hasDictAll]
  | d :: ds, c => by
    simp only [PyData.canLayAll0, Bool.and_eq_true] at c
    simp only [PyData.hasDictAll, noDict c.1, noDicts c.2, Bool.or_self]
end
theorem call_reprD (hG : X.A.guards = some []) (hu : X.A.units + 65 < cLine) : CallR X (.builtin "repr") (fun xs H Q => ∃ v x, xs = [v] ∧ Dp X.K H v x ∧ x.hasDict = false ∧ x.showable = true ∧ x.shown.length ≤ sizeLine ∧ x.depth < 64 ∧ Q (.str x.shown) H) := by
  intro pins s σ H xs us Q I r h
  obtain ⟨v, x, rfl, dp, nd, hs, hz, hd, q⟩ := h
  obtain ⟨u, rfl, ru⟩ := vals1 r
  have fin : ∀ (h' : Heap) (t tk : Nat), (∀ b o, s.heap.get? b = some o → h'.get? b = some o) → EP X pins σ Q (.str x.shown t) { s with heap := h', toks := tk } := fun h' t tk hk => ⟨.str x.shown, H, I.kept hk, ⟨t, rfl⟩, q⟩
  have fin0 : EP X pins σ Q (.str x.shown s.toks) { s with toks := s.toks + 1 } := fin s.heap s.toks (s.toks + 1) fun _ _ e => e
  obtain ⟨as, rd⟩ := Dp.reads I x v u dp ru
  cases dp with
  | non =>
    cases ru
    simp only [PyData.shown] at fin0
    exact PySem.P.repr_of_none fin0
  | bl b =>
    cases ru
    simp only [PyData.shown] at fin0
    refine PySem.P.repr_of_bool ?_
    cases b <;> exact fin0
  | int i =>
    obtain ⟨t, rfl⟩ := ru
    simp only [PyData.shown] at fin0
    simp only [PyData.showable, decide_eq_true_eq] at hs
    exact PySem.P.repr_of_int hs fin0
  | str z =>
    obtain ⟨t, rfl⟩ := ru
    simp only [PyData.shown] at fin0 hz
    exact PySem.P.repr_of_str fin0 hz
  | lst q1 q2 =>
    cases ru
    exact repr_of_reads' rd hs (fun e => by rw [nd] at e; cases e) hG (by omega) (fun _ _ e => e) (fun h' t tk hk => fin h' t tk hk) hz
  | tup q1 q2 =>
    cases ru
    exact repr_of_reads' rd hs (fun e => by rw [nd] at e; cases e) hG (by omega) (fun _ _ e => e) (fun h' t tk hk => fin h' t tk hk) hz
theorem ca_repr (hG : X.A.guards = some []) (hu : X.A.units + 65 < cLine) : ClA X (.builtin "repr") ReprR := ⟨_, call_reprD hG hu, fun F H ws vs res QH s c hr k => by
  cases hr with
  | D h cl sh z d =>
    obtain ⟨v, A, rfl, r⟩ := cont1 c
    exact ⟨v, _, rfl, Rfy.dp s h cl r, noDict cl, sh, z, d, k _ F H (New.pure (by rw [dq_str]))⟩⟩
end
end Ab

namespace Ab
open PySem PySem.Spec PyProof.Rows L2
open PySem.Calls

/-! ## the end of a law -/
theorem law_callG {P : Program} {w : World} {K : PySem.W.Frag} {mg mb : Str → Option Value} {k : Nat} {fa a : Addr} {fd : FuncData} {x : Str} {sp : Sp} {s₁ : Shared} {vs : List Value} {ns : List Int}
    (KX : K.In s₁.heap) (hns : s₁.heap.Ns mainGlobals mg) (hb : s₁.heap.Ns builtinsNs mb) (hbb : ∀ x : Str, x ≠ "__name__" → mb x = bootBuiltins x) (hlim : s₁.heap.NoLimit) (hg : s₁.gens = #[])
    (ha : s₁.heap.get? a = some { cls := .type "list", data := .seq vs.toArray }) (hi : IntsAre vs ns) (hl : ns.length ≤ sizeLine) (hr : Room k callerA)
    (F : ∀ base : Heap, K.In base → base.Ns mainGlobals mg → FnG P w K mg base k fa fd [x] sp) (hbind : ∀ (s : Shared) (u : Value), BindsTo s fd ⟨[u], []⟩ [(x, u)])
    (hsp : ∀ H : Hp, Only H → SqL K H a (ns.map V.int) → sp [.ref a] H (fun v _ => v = .bl true) fun _ _ _ => False) :
    codeAny (model P w) callerA (.call (.ref fa) ⟨[.ref a], []⟩) (fun r s' => r = .ok (.ret (.bool true)) ∧ OldK s₁.heap s'.heap ∧ s'.os = s₁.os ∧ AllBare s'.gens) s₁ := by
  have rv := vals_ints hi
  have ln := hi.length
  -- whatever is told of the script's own object
  have go : ∀ H : Hp, (∀ b u, H b = some u → b = a ∧ K.lookup a = none ∧ u = .frz { cls := .type "list", data := .seq vs.toArray } (.lst (ns.map V.int))) → SqL K H a (ns.map V.int) →
      codeAny (model P w) callerA (.call (.ref fa) ⟨[.ref a], []⟩) (fun r s' => r = .ok (.ret (.bool true)) ∧ OldK s₁.heap s'.heap ∧ s'.os = s₁.os ∧ AllBare s'.gens) s₁ := by
    intro H hH hS
    have told : ∀ {b}, H b ≠ none → b = a ∧ K.lookup a = none := fun {b} n => by
      cases q : H b with
      | none => exact absurd q n
      | some u => exact ⟨(hH b u q).1, (hH b u q).2.1⟩
    have only : Only H := fun b => by
      cases q : H b with
      | none => exact .inl rfl
      | some u => exact .inr ⟨_, _, by rw [(hH b u q).2.2]⟩
    have hok : HOk P w H s₁.heap := fun b u q => by
      obtain ⟨rfl, _, rfl⟩ := hH b u q
      exact ⟨ha, by rw [List.length_map]; exact hl, vs, _, rv, ha⟩
    have un : ∀ {b : Addr} {o : Obj} {es : Array DictEntry} {ep : Nat}, s₁.heap.get? b = some o → o.data = .dict es ep → H b = none := fun {b o es ep} e d => by
      cases q : H b with
      | none => rfl
      | some u =>
        obtain ⟨rfl, _, _⟩ := hH b u q
        rw [ha] at e
        cases e
        cases (show Data.seq vs.toArray _ = Data.dict es ep from d)
    have nsK : ∀ {b : Addr} {m : Str → Option Value}, s₁.heap.Ns b m → (hidT s₁.heap H).Ns b m := fun {b m} ⟨o, es, ep, e, d, r⟩ => ⟨o, es, ep, hidT_get e (un e d), d, r⟩
    have kin : K.In (hidT s₁.heap H) := fun b o e => hidT_get (KX b o e) (by
      cases q : H b with
      | none => rfl
      | some u =>
        obtain ⟨rfl, z, _⟩ := hH b u q
        rw [z] at e; cases e)
    have md : Mod K mg (hidT s₁.heap H) := ⟨kin, nsK hns, ⟨mb, nsK hb, hbb⟩, by
      obtain ⟨mc, h1, h2⟩ := hlim
      exact ⟨mc, nsK h1, h2⟩⟩
    have e0 : Env0 P w K mg (hidT s₁.heap H) callerA [] s₁ H := ⟨rfl, md, fun b o e => of_hidT e, Nat.le_of_eq (hidT_size _ _), trivial, fun b hb => absurd (show b ∈ ([] : List Addr) from hb) (by simp), hok, .of_eq hg⟩
    refine codeAny_mono ((F _ kin (nsK hns)).run callerA [] s₁ H ⟨[.ref a], []⟩ [.ref a] [.ref a] _ _ rfl hr e0 (hbind s₁ (.ref a)) (.cons rfl .nil) (hsp H only hS)) fun r s' h => ?_
    cases r with
    | error e => exact False.elim h
    | ok fl =>
      cases fl with
      | next => exact False.elim h
      | brk => exact False.elim h
      | cont => exact False.elim h
      | ret u =>
        obtain ⟨v, H', os, bare, un, hok', r', q⟩ := h
        obtain rfl : v = .bl true := q
        obtain rfl : u = Value.bool true := r'
        refine ⟨rfl, OldK.of_keep fun b o e => ?_, os, bare⟩
        cases q : H b with
        | none => exact un.keep b o e q (fun z => absurd (show b ∈ ([] : List Addr) from z) (by simp)) (by simp)
        | some u =>
          obtain ⟨rfl, _, rfl⟩ := hH b u q
          obtain ⟨e2, _⟩ := hok' b _ (un.frzs b _ _ q)
          rw [ha] at e
          cases e
          exact e2
  cases hk : K.lookup a with
  | some o =>
    have e := KX a o hk
    rw [ha] at e
    cases e
    exact go (fun _ => none) (fun b u z => nomatch z) (.inr ⟨_, vs.toArray, _, hk, rfl, rfl, rfl, by rw [List.size_toArray, ln]; exact hl, by simpa using rv⟩)
  | none =>
    refine go (fun b => if b = a then some (.frz { cls := .type "list", data := .seq vs.toArray } (.lst (ns.map V.int))) else none) (fun b u z => ?_) (.inl (.inr ⟨{ cls := .type "list", data := .seq vs.toArray }, if_pos rfl⟩))
    by_cases h : b = a
    · rw [if_pos h] at z
      exact ⟨h, hk, (Option.some.inj z).symm⟩
    · rw [if_neg h] at z; cases z
/-- a law's walk, of a def that shows values; the script's bits are told -/
theorem walk_ofG {l : PySem.W.OpenLaw} {n k : Nat} {q : Program} {loose : List Str} {XP : (Str → Option Value) → Heap → Prop} {YP : World → Heap → Prop} {d : PySem.DefRec} {K : Params → PySem.W.Frag} {sp : World → Sp} {x : Str}
    (hn : l.most = some n) (hn2 : n ≤ sizeLine) (hdf : d.params.defaults = []) (hr : Room k callerA)
    (hY : ∀ (w : World) (h : Heap), YP w h → (K w.params).In h)
    (F : ∀ (w : World) (mg : Str → Option Value) (fa : Addr) (h : Heap), (K w.params).In h → h.Ns mainGlobals mg → mg d.name = some (.ref fa) →
      ∃ fd : FuncData, (∀ (s : Shared) (u : Value), BindsTo s fd ⟨[u], []⟩ [(x, u)]) ∧
        ∀ base : Heap, (K w.params).In base → base.Ns mainGlobals mg → FnG l.prog w (K w.params) mg base k fa fd [x] (sp w))
    (hsp : ∀ (w : World) (H : Hp) (a : Addr) (ns : List Int), ns.length ≤ n → (∀ z ∈ ns, Builtin.Int.intBits z ≤ 1048576) → Only H → SqL (K w.params) H a (ns.map V.int) → sp w [.ref a] H (fun v _ => v = .bl true) fun _ _ _ => False) :
    PySem.W.WalkO q loose XP YP l.row.toRowW d [] (fun f vs => PySem.call f vs) := by
  refine Att.attach_callB hn hdf fun w s₀ s₁ mg mb fa o pm cd doc a vs ns G Y ho hd hcd hmg hobj hints hlen hbits hg => ?_
  obtain ⟨fd, hb, hF⟩ := F w mg fa _ (hY w _ Y) G.T.g hmg
  exact law_callG (hY w _ Y) G.T.g G.T.b G.T.builtins G.T.nolimit hg hobj hints (Nat.le_trans hlen hn2) hr hF hb fun H hO hS => hsp w H a ns hlen hbits hO hS
/-- … by contents -/
theorem spA_script {K : PySem.W.Frag} {H : Hp} {a : Addr} {ns : List Int} {sp : SpW} (hS : SqL K H a (ns.map V.int)) (h : sp [.d (.list (ns.map PyData.int))] fun r _ => r = .d (.bool true)) (E : XK) (mo : ∀ ws Q Q', (∀ r ws', Q r ws' → Q' r ws') → sp ws Q → sp ws Q') : spA K sp [.ref a] H (fun v _ => v = .bl true) E := by
  have dqs : ∀ l : List Int, Dqs K H (l.map PyData.int) (l.map V.int) := fun l => by
    induction l with
    | nil => rw [List.map_nil, List.map_nil, dqs_nil]
    | cons i l ih => rw [List.map_cons, List.map_cons, dqs_cons]; exact ⟨_, _, rfl, by rw [dq_int], ih⟩
  refine ⟨H, [.d (.list (ns.map PyData.int))], [], Same.refl _, ?_, List.nodup_nil, (by intro a h; cases h), ?_⟩
  · rw [reps_cons]
    exact ⟨_, [], [], [], rfl, rfl, by rw [rep_d, dq_list]; exact ⟨⟨a, _, rfl, hS, dqs ns⟩, rfl⟩, by rw [reps_nil]; exact ⟨rfl, rfl⟩⟩
  · refine mo _ _ _ ?_ h
    intro r ws' e v F' H' Ar A' _ _ _ _ _ rr _ _ _
    subst e
    rw [rep_d, dq_bool] at rr
    exact rr.1

section
variable {X : Cx}
/-! ## more words -/
inductive IsBR : W → W → W → Prop
  | mk {a b : Bool} : IsBR (.d (.bool a)) (.d (.bool b)) (.d (.bool (decide (a = b))))
theorem oa_isB : OpA X (compareOp .Is) IsBR := by
  refine ⟨_, op_isBl, fun F H wx wy vx vy A B res QH s rx ry hr k => ?_⟩
  cases hr with
  | mk =>
    rw [rep_d, dq_bool] at rx ry
    exact ⟨_, _, rx.1, ry.1, k _ F H (New.pure (by rw [dq_bool]))⟩
inductive NotBR : W → W → W → Prop
  | mk {a b : Bool} : NotBR (.d (.bool a)) (.d (.bool b)) (.d (.bool (!decide (a = b))))
theorem oa_notB : OpA X (compareOp .IsNot) NotBR := by
  refine ⟨_, op_notBl, fun F H wx wy vx vy A B res QH s rx ry hr k => ?_⟩
  cases hr with
  | mk =>
    rw [rep_d, dq_bool] at rx ry
    exact ⟨_, _, rx.1, ry.1, k _ F H (New.pure (by rw [dq_bool]))⟩
/-- the signs of a text -/
def chD (x : Str) : List PyData := x.cps.toList.map fun c => PyData.str ⟨#[c]⟩
def chV (x : Str) : List V := x.cps.toList.map fun c => V.str ⟨#[c]⟩
theorem ch_dqs {K : PySem.W.Frag} {F : Hp} (x : Str) : Dqs K F (chD x) (chV x) := by
  unfold chD chV
  induction x.cps.toList with
  | nil => rw [List.map_nil, List.map_nil, dqs_nil]
  | cons i l ih => rw [List.map_cons, List.map_cons, dqs_cons]; exact ⟨_, _, rfl, by rw [dq_str], ih⟩
theorem call_listS (hc : X.calm = true) : CallR X (.type "list") (fun xs H Q => ∃ x : Str, xs = [.str x] ∧ x.cps.size ≤ sizeLine ∧ ∀ p, H p = none → Q (.ref p) (upd H p (.lst (chV x)))) := by
  intro pins s σ H xs us Q I r h
  obtain ⟨x, rfl, hz, q⟩ := h
  obtain ⟨u, rfl, t, rfl⟩ := vals1 r
  refine call_list_str (hn := hz) (I.ok.hd hc) x t fun h' tk acc c' hk e hi => ?_
  have hlen : (chV x).length = x.cps.size := by simp [chV]
  refine ⟨.ref s.heap.objs.size, upd H s.heap.objs.size (.lst (chV x)), I.laid hk (Nat.le_refl _) ⟨by rw [hlen]; exact hz, acc.toList, c', ?_, by rw [Array.toArray_toList]; exact e⟩, rfl, q _ (I.hok.fresh (Nat.le_refl _))⟩
  refine vals_of_idx _ _ (by rw [hlen, Array.length_toList]; exact hi.1) fun j u hj => ?_
  obtain ⟨c, t', hc, rfl⟩ := hi.2 j u (by rw [← Array.getElem?_toList]; exact hj)
  exact ⟨.str ⟨#[c]⟩, by simp [chV, hc], ⟨_, rfl⟩⟩
inductive ListSR : List W → W → Prop
  | mk {x : Str} (h : x.cps.size ≤ sizeLine) : ListSR [.d (.str x)] (.lst ((chD x).map W.d))
theorem ca_listS (hc : X.calm = true) : ClA X (.type "list") ListSR := ⟨_, call_listS hc, fun F H ws vs res QH s c hr k => by
  cases hr with
  | mk h =>
    obtain ⟨v, A, rfl, r⟩ := cont1 c
    rw [rep_d, dq_str] at r
    exact ⟨_, by rw [r.1], h, fun p hp => k _ F _ (New.lst hp (ch_dqs _))⟩⟩
/-! ### methods that read -/
structure RdA (X : Cx) (id : String) (R : W → List W → W → Prop) : Prop where
  ex : ∃ r, MtR X id r ∧ ∀ F H w ws v vs res (QH : VK), Same F H → Cont X.K F H (w :: ws) (v :: vs) → R w ws res → (∀ v F' H', New X.K F H res v F' H' → QH v H') → r v vs H QH
def tRd (T : String) (R : W → List W → W → Prop) (to : TEA) (t : TAA) : TEA := fun ε Q => to ε fun x ε1 => ∃ w0, cnt ε1 x = some w0 ∧ tyW w0 T ∧ t ε1 fun xs ε2 => ∃ w ws res ε3, cnts ε2 (x :: xs) = some (w :: ws) ∧ bcks (x :: xs) ε2 = some ε3 ∧ R w ws res ∧ Q (.v res) ε3
variable {T name : String} {id : String} {R : W → List W → W → Prop} {o e : Expr} {es : List Expr} {to : TEA} {t : TAA} {apos cpos : Pos}
theorem rd_core {r : V → List V → Hp → VK → Prop} (q : ∀ F H w ws v vs res (QH : VK), Same F H → Cont X.K F H (w :: ws) (v :: vs) → R w ws res → (∀ v F' H', New X.K F H res v F' H' → QH v H') → r v vs H QH)
    {E : Ent} {F H : Hp} {φ : Addr → Option Nat} {ε : Env} {σ : L2.St} {τ : List (W × V)} {x : EV} {xs : List EV} {v : V} {vs : List V} {Q : EV → Env → Prop} {QH : VK} (S : Sta X.K E F φ ε σ H (evTs (evT x v τ) xs vs)) (ok : evOk x σ v) (oks : evOks σ xs vs)
    (h : ∃ w ws res ε3, cnts ε (x :: xs) = some (w :: ws) ∧ bcks (x :: xs) ε = some ε3 ∧ R w ws res ∧ Q (.v res) ε3) (k : ∀ rv v F' φ' ε' H', Sta X.K E F' φ' ε' σ H' (evT rv v τ) → evOk rv σ v → Q rv ε' → QH v H') : r v vs H QH := by
  obtain ⟨w, ws, rr, ε2, c, b, hr, h2⟩ := h
  have S' : Sta X.K E F φ ε σ H (evTs τ (x :: xs) (v :: vs)) := S
  have ct := S'.views (xs := x :: xs) (vs := v :: vs) ⟨ok, oks⟩ c
  obtain ⟨φ2, S2⟩ := S'.backs (xs := x :: xs) (vs := v :: vs) ⟨ok, oks⟩ b
  refine q F H w ws v vs rr QH S.sub ct hr fun v F' H' n => ?_
  obtain ⟨φ3, S3⟩ := S2.new n
  exact k (.v rr) v F' φ3 ε2 H' S3 True.intro h2
theorem ae_rd {name : Str} (pa : PlainAttrs T) (slot : Slot T name id) (hty : typeOf (.builtin id) = pure (.type "method_descriptor")) (hm : RdA X id R) (ho : AE X o to) (ha : AA X (e :: es) t)
    (hbase : attributeBase o name X.env (eval o X.env) = eval o X.env := by rfl)
    (hfew : ((backTo cpos (starEach (e :: es) X.env)).all (fun x => !x.1) && (backToKw cpos (keywordEach [] X.env)).all (fun x => x.1.isSome)
      && decide ((e :: es).length + ([] : List Keyword).length + (if ([] : List Keyword).isEmpty then 0 else 1) < 30)) = true := by rfl)
    (hline : (apos.endLine == cpos.line) = true := by rfl) (hs : starEach (e :: es) X.env = (false, eval e X.env) :: starEach es X.env := by rfl) (hplain : (backTo cpos (starEach es X.env)).any (·.1) = false := by rfl) :
    AE X (.Call (.Attribute o name apos) (e :: es) [] cpos) (tRd T R to t) := by
  obtain ⟨r, pm, qm⟩ := hm.ex
  obtain ⟨_, po, qo⟩ := ho.ex
  obtain ⟨_, pa', qa⟩ := ha.ex
  refine ⟨_, pe_bm pa slot hty pm po pa' hbase hfew hline hs hplain, fun E F φ ε σ H τ Q QH S h k => ?_⟩
  refine qo E F φ ε σ H τ _ _ S h fun x v F1 φ1 ε1 H1 S1 ok1 h1 => ?_
  obtain ⟨w0, c0, ty, h1⟩ := h1
  obtain ⟨A, rA, _, _⟩ := S1.view ok1 c0
  refine ⟨tyW_ok S1.sub ty rA, ?_⟩
  exact qa E F1 φ1 ε1 σ H1 _ _ _ S1 h1 fun xs vs F2 φ2 ε2 H2 S2 ok2 h2 => rd_core qm S2 ok1 ok2 h2 k
end
end Ab

namespace Ab
open PySem PySem.Spec PyProof.Rows L2

/-! ## defs by name -/
structure Df (P : Program) (w : World) (K : PySem.W.Frag) (mg : Str → Option Value) (base : Heap) (k : Nat) (x : Str) (sp : SpW) : Prop where
  ex : ∃ (f : Addr) (fd : FuncData) (ps : List Str), FnOk P w K mg base CX0 k f fd ps (spA K sp) ∧ mg x = some (.ref f) ∧ PySem.W.keepIn K (.ref f) = true ∧ Binds K fd ps [] ∧ SpW.Mono sp
structure DfG (P : Program) (w : World) (K : PySem.W.Frag) (mg : Str → Option Value) (base : Heap) (k : Nat) (x : Str) (sp : SpW) : Prop where
  ex : ∃ (f : Addr) (fd : FuncData) (ps : List Str), FnG P w K mg base k f fd ps (spA K sp) ∧ mg x = some (.ref f) ∧ PySem.W.keepIn K (.ref f) = true ∧ Binds K fd ps [] ∧ SpW.Mono sp
section
variable {X : Cx} {j k : Nat} {x : Str} {e : Expr} {es : List Expr} {t : TAA} {p pos : Pos} {sp : SpW}
theorem ae_df (D : Df X.prog X.w X.K X.mg X.base k x sp) (hr : Room j X.A) (ha : AA X (e :: es) t) (hk : k ≤ j := by omega) (hg : Gl X x := by rfl)
    (hdb : (x == ("__debug__" : Str)) = false := by decide) (he : starEach (e :: es) X.env = (false, eval e X.env) :: starEach es X.env := by rfl) (hpl : (backTo pos (starEach es X.env)).any (·.1) = false := by rfl) :
    AE X (.Call (.Name x p) (e :: es) [] pos) (tCall sp t) := by
  obtain ⟨f, fd, ps, F, hm, kp, hb, mo⟩ := D.ex
  exact ae_call F mo (hr.mono hk) hg hm kp hb ha hdb he hpl
theorem ae_dfG (D : DfG X.prog X.w X.K X.mg X.base k x sp) (hG : X.A.guards = some []) (hr : Room j X.A) (ha : AA X (e :: es) t) (hk : k ≤ j := by omega) (hg : Gl X x := by rfl)
    (hdb : (x == ("__debug__" : Str)) = false := by decide) (he : starEach (e :: es) X.env = (false, eval e X.env) :: starEach es X.env := by rfl) (hpl : (backTo pos (starEach es X.env)).any (·.1) = false := by rfl) :
    AE X (.Call (.Name x p) (e :: es) [] pos) (tCall sp t) := by
  obtain ⟨f, fd, ps, F, hm, kp, hb, mo⟩ := D.ex
  exact ae_callG F mo hG (hr.mono hk) hg hm kp hb ha hdb he hpl
end
/-- the built-in names that no def of the module takes -/
structure Bi (mg : Str → Option Value) : Prop where
  no : ∀ x ∈ (["abs", "max", "min", "int", "len", "list", "range", "repr", "str", "enumerate", "isinstance", "sorted", "all", "any", "tuple", "dict", "set", "bool"] : List Str), mg x = none
theorem u1 {k : Nat} {A : Around} (hr : Room k A) : A.units + 1 < cLine := by have := hr.un; omega
theorem u65 {k : Nat} {A : Around} (hr : Room k A) : A.units + 65 < cLine := by have := hr.un; omega
/-- a comprehension's block, by looking -/
def blkC (N : List Str) (sc scope : Scope) (own : List (Str × Nat)) : Bool :=
  decide (scope.kind = .function) && scope.names.all (fun y => decide (scope.names.lookup y.1 = some y.2)) && own.all (fun p => decide (N[p.2]? = some p.1)) &&
  scope.names.all (fun y => !decide (y.2 = .free) || (decide (sc.names.lookup y.1 = some .cell) || decide (sc.names.lookup y.1 = some .free))) &&
  scope.names.all (fun y => !(decide (y.2 = .local) || decide (y.2 = .cell)) || (decide (y.1 ∈ own.map (·.1)) || !decide (y.1 ∈ N)))
theorem blk_ok {N : List Str} {sc scope : Scope} {own : List (Str × Nat)} (h : blkC N sc scope own = true) : BlkOk N sc scope own := by
  unfold blkC at h
  simp only [Bool.and_eq_true, decide_eq_true_eq, List.all_eq_true, Bool.or_eq_true, Bool.not_eq_true', decide_eq_false_iff_not] at h
  obtain ⟨⟨⟨⟨h1, h2⟩, h3⟩, h4⟩, h5⟩ := h
  exact ⟨h1, h2, h3, fun y hy e => (h4 y hy).resolve_left (fun z => z e), fun y hy e => (h5 y hy).resolve_left (fun z => by
    rw [Bool.or_eq_false_iff, decide_eq_false_iff_not, decide_eq_false_iff_not] at z
    exact e.elim z.1 z.2)⟩
theorem pickT {b : Bool} {p q : Prop} (e : b = true) (h : p) : if b = true then p else q := by rw [if_pos e]; exact h
theorem pickF {b : Bool} {p q : Prop} (e : b = false) (h : q) : if b = true then p else q := by rw [if_neg (by rw [e]; decide)]; exact h
/-- a content made a datum -/
def tFrz (te : TEA) : TEA := fun ε Q => te ε fun rv ε1 => ∃ w ε2 x, Tak rv ε1 w ε2 ∧ Rfy w x ∧ Q (.v (.d x)) ε2
theorem ae_frz {X : Cx} {e : Expr} {te : TEA} (h : AE X e te) : AE X e (tFrz te) := by
  obtain ⟨tH, p, q⟩ := h.ex
  refine ⟨tH, p, fun E F φ ε σ H τ Q QH S h k => ?_⟩
  refine q E F φ ε σ H τ _ _ S h fun rv v F1 φ1 ε1 H1 S1 ok h1 => ?_
  obtain ⟨w, ε2, x, t, rf, h2⟩ := h1
  obtain ⟨F2, φ2, S2⟩ := S1.take ok t
  obtain ⟨F3, φ3, S3, dq⟩ := Sta.freeze (ws := [w]) (vs := [v]) (xs := [x]) S2 rfl (.cons rf .nil)
  rw [dqs_cons] at dq
  obtain ⟨v', r, e', d, _⟩ := dq
  cases e'
  obtain ⟨φ4, S4⟩ := S3.pushD d
  exact k (.v (.d x)) v F3 φ4 ε2 H1 S4 True.intro h2
theorem puts_v {z z' : W} {xs : List EV} {ws : List W} {ε ε2 : Env} (h : puts xs ws ε = some ε2) : puts (.v z :: xs) (z' :: ws) ε = some ε2 := by
  show (puts xs ws ε).bind (fun ε1 => put (.v z) z' ε1) = some ε2
  rw [h]
  rfl
theorem bck_fl {i : Nat} {u : V} {w : W} {ε : Env} (h : ε[i]? = some (some (.v u))) : bck (.fl i [] u w) ε = some (ε.set i (some w)) := by
  show (match ε[i]? with
    | some (some r) => match getP r [] with
      | some (.v z) => if z = u then some (ε.set i (some (putP r [] w))) else none
      | _ => none
    | _ => none) = some (ε.set i (some w))
  rw [h]
  show (if u = u then some (ε.set i (some (putP (.v u) [] w))) else none) = _
  rw [if_pos rfl]
  rfl
theorem puts_fl {i : Nat} {u : V} {w w' : W} {xs : List EV} {ws : List W} {ε ε2 : Env} (h : puts xs ws ε = some ε2) (h2 : ε2[i]? = some (some (.v u))) : puts (.fl i [] u w :: xs) (w' :: ws) ε = some (ε2.set i (some w')) := by
  show (puts xs ws ε).bind (fun ε1 => put (.fl i [] u w) w' ε1) = _
  rw [h]
  exact bck_fl h2
/-! ## short names of readings -/
abbrev SubR := IntR (fun _ _ => True) fun i j => i - j
abbrev ModR := IntR (fun _ j => 0 < j) fun i j => i % j
abbrev FdR := IntR CDivW fun i j => i / j
abbrev PowR := IntR CPowW fun i j => i ^ j.toNat
abbrev LtR := CmpR fun i j => decide (i < j)
abbrev LeR := CmpR fun i j => decide (i ≤ j)
abbrev GtR := CmpR fun i j => decide (j < i)
abbrev GeR := CmpR fun i j => decide (j ≤ i)
end Ab

namespace Ab
open PySem PySem.Spec PyProof.Rows L2

/-! ## data that show themselves in few signs -/
structure Shw (d : PyData) (m n : Nat) : Prop where
  lay : d.canLay0 = true
  sh : d.showable = true
  dep : d.depth ≤ m
  len : d.shown.length ≤ n
theorem Shw.mono {d : PyData} {m n m' n' : Nat} (h : Shw d m n) (h1 : m ≤ m') (h2 : n ≤ n') : Shw d m' n' := ⟨h.lay, h.sh, Nat.le_trans h.dep h1, Nat.le_trans h.len h2⟩
theorem shw_none : Shw .none 0 4 := ⟨by simp only [PyData.canLay0], by simp only [PyData.showable], by simp [PyData.depth], by simp only [PyData.shown]; decide⟩
theorem shw_bool {b : Bool} : Shw (.bool b) 0 5 := ⟨by simp only [PyData.canLay0], by simp only [PyData.showable], by simp [PyData.depth], by simp only [PyData.shown]; cases b <;> decide⟩
theorem shw_int {i : Int} {k : Nat} (h0 : 0 ≤ i) (hk : 0 < k) (h : i < 10 ^ k) (h2 : k < 400) : Shw (.int i) 0 k := by
  refine ⟨by simp only [PyData.canLay0], ?_, by simp [PyData.depth], by simp only [PyData.shown]; exact toString_length_le h0 hk h⟩
  simp only [PyData.showable, decide_eq_true_eq]
  by_cases z : i.natAbs = 0
  · rw [z]; decide
  · have e : ((i.natAbs : Nat) : Int) = i := Int.natAbs_of_nonneg h0
    have h3 : i.natAbs < 10 ^ k := by
      have : ((i.natAbs : Nat) : Int) < ((10 ^ k : Nat) : Int) := by rw [e]; simpa using h
      exact Int.ofNat_lt.mp this
    have h4 : (10 : Nat) ^ k ≤ (2 ^ 4) ^ k := Nat.pow_le_pow_left (by decide) k
    rw [← Nat.pow_mul] at h4
    exact Nat.lt_of_lt_of_le ((Nat.log2_lt z).mpr (Nat.lt_of_lt_of_le h3 h4)) (by omega)
theorem shw_str {x : Str} (h : PyData.strOk x = true) : Shw (.str x) 0 (10 * x.length + 2) := by
  refine ⟨by simp only [PyData.canLay0]; exact h, by simp only [PyData.showable], by simp [PyData.depth], ?_⟩
  simp only [PyData.shown]
  refine StrLaws.reprText_len x fun c hc => ?_
  unfold PyData.strOk at h
  rw [← Array.all_toList, List.all_eq_true] at h
  have := h c hc
  simp at this
  exact Nat.lt_trans this (by decide)
theorem shown_all : ∀ xs : List PyData, PyData.shownAll xs = xs.map PyData.shown
  | [] => by simp only [PyData.shownAll, List.map_nil]
  | x :: xs => by simp only [PyData.shownAll, List.map_cons, shown_all xs]
theorem piled_le {n : Nat} : ∀ {ts : List Str}, (∀ t ∈ ts, t.length ≤ n) → piled ts ≤ ts.length * (n + 2)
  | [], _ => by simp [piled]
  | t :: ts, h => by
    have h1 := h t List.mem_cons_self
    have h2 := piled_le (n := n) (ts := ts) fun y hy => h y (List.mem_cons_of_mem _ hy)
    rw [piled_cons, List.length_cons, Nat.add_mul, Nat.one_mul]
    omega
theorem list_text_le : ∀ ts : List Str, (listText ts).length ≤ piled ts + 2
  | [] => by decide
  | t :: r => by
    have h := textFrom_length_pos r 1 (("[" : Str) ++ (if (0 : Nat) > 0 then ", " else "" : String) ++ t) (Nat.succ_pos 0)
    have e : ((("[" : Str) ++ (if (0 : Nat) > 0 then ", " else "" : String) ++ t)).length = 1 + t.length := by
      rw [strLen_append, strLen_append]; rfl
    have x : (listText (t :: r)).length = (textFrom 1 (("[" : Str) ++ (if (0 : Nat) > 0 then ", " else "" : String) ++ t) r).length + 1 := by
      show (textFrom 1 _ r ++ "]").length = _
      rw [strLen_append]; rfl
    rw [x, h, e, piled_cons]
    omega
theorem tuple_text_le (ts : List Str) : (tupleText ts).length ≤ piled ts + 3 := by
  unfold tupleText
  rw [strLen_append, strLen_append]
  have e1 : (("(" : Str)).length = 1 := rfl
  have e2 : (if ts.length == 1 then ",)" else ")" : String).toList.length ≤ 2 := by split <;> decide
  have e3 : (((if ts.length == 1 then ",)" else ")" : String)) : Str).length ≤ 2 := by split <;> decide
  by_cases h : ts = []
  · subst h
    have : (Str.join ", " ([] : List Str)).length = 0 := rfl
    omega
  · have := join_length_add ts h
    omega
theorem lay_of : ∀ {xs : List PyData}, (∀ x ∈ xs, x.canLay0 = true) → PyData.canLayAll0 xs = true
  | [], _ => by simp [PyData.canLayAll0]
  | x :: xs, h => by
    simp only [PyData.canLayAll0, Bool.and_eq_true]
    exact ⟨h x List.mem_cons_self, lay_of fun y hy => h y (List.mem_cons_of_mem _ hy)⟩
theorem show_of : ∀ {xs : List PyData}, (∀ x ∈ xs, x.showable = true) → PyData.showableAll xs = true
  | [], _ => by simp [PyData.showableAll]
  | x :: xs, h => by
    simp only [PyData.showableAll, Bool.and_eq_true]
    exact ⟨h x List.mem_cons_self, show_of fun y hy => h y (List.mem_cons_of_mem _ hy)⟩
theorem depth_of {n : Nat} : ∀ {xs : List PyData}, (∀ x ∈ xs, x.depth ≤ n) → (PyData.list xs).depth ≤ n + 1 ∧ (PyData.tuple xs).depth ≤ n + 1
  | [], _ => by simp [PyData.depth, PyData.depthAll]
  | x :: xs, h => by
    have h1 := h x List.mem_cons_self
    have h2 := depth_of (n := n) (xs := xs) fun y hy => h y (List.mem_cons_of_mem _ hy)
    simp only [PyData.depth, PyData.depthAll] at h2 ⊢
    omega
theorem shw_list {xs : List PyData} {m n : Nat} (h : ∀ x ∈ xs, Shw x m n) : Shw (.list xs) (m + 1) (xs.length * (n + 2) + 2) := by
  refine ⟨by simp only [PyData.canLay0]; exact lay_of fun x hx => (h x hx).lay, by simp only [PyData.showable]; exact show_of fun x hx => (h x hx).sh, (depth_of fun x hx => (h x hx).dep).1, ?_⟩
  simp only [PyData.shown]
  rw [shown_all]
  refine Nat.le_trans (list_text_le _) (Nat.add_le_add_right ?_ 2)
  have := piled_le (n := n) (ts := xs.map PyData.shown) fun t ht => by
    obtain ⟨x, hx, rfl⟩ := List.mem_map.mp ht
    exact (h x hx).len
  rwa [List.length_map] at this
theorem shw_tup {xs : List PyData} {m n : Nat} (h : ∀ x ∈ xs, Shw x m n) : Shw (.tuple xs) (m + 1) (xs.length * (n + 2) + 3) := by
  refine ⟨by simp only [PyData.canLay0]; exact lay_of fun x hx => (h x hx).lay, by simp only [PyData.showable]; exact show_of fun x hx => (h x hx).sh, (depth_of fun x hx => (h x hx).dep).2, ?_⟩
  simp only [PyData.shown]
  rw [shown_all]
  refine Nat.le_trans (tuple_text_le _) (Nat.add_le_add_right ?_ 3)
  have := piled_le (n := n) (ts := xs.map PyData.shown) fun t ht => by
    obtain ⟨x, hx, rfl⟩ := List.mem_map.mp ht
    exact (h x hx).len
  rwa [List.length_map] at this
theorem Shw.shaped {d : PyData} {m n : Nat} (h : Shw d m n) (hm : m ≤ 64) : SeqAt.shaped d = true := by
  unfold SeqAt.shaped
  rw [Bool.and_eq_true, decide_eq_true_eq]
  exact ⟨h.lay, Nat.le_trans h.dep hm⟩
theorem Shw.repr {w : W} {d : PyData} {m n : Nat} (h : Shw d m n) (r : Rfy w d) (hm : m < 64) (hn : n ≤ sizeLine) : ReprR [w] (.d (.str d.shown)) := .D r h.lay h.sh (Nat.le_trans h.len hn) (Nat.lt_of_le_of_lt h.dep hm)
end Ab
namespace Ab
open PySem PySem.Spec PyProof.Rows L2
/-! ## arguments that are lent when all are evaluated -/
section
variable {K : PySem.W.Frag} {E : Ent} {F F' H H' : Hp} {φ φ' : Addr → Option Nat} {ε ε' : Env} {σ σ' : L2.St} {τ τ' r : List (W × V)} {rv : EV} {v : V} {w : W}
theorem Sta.lendAt {i : Nat} (S : Sta K E F φ ε σ H (τ ++ r)) (ok : σ[i]? = some (some v)) (h : ε[i]? = some (some w)) : ∃ φ', Sta K E F φ' (ε.set i (some (.v v))) σ H (τ ++ (w, v) :: r) := by
  obtain ⟨v', A, e, rA, nd, hA⟩ := S.slot i w h
  rw [ok] at e
  cases e
  obtain ⟨hi, _⟩ := List.getElem?_eq_some_iff.mp h
  let φ' : Addr → Option Nat := fun a => match φ a with
    | some k => if k = i then (if a ∈ A then some (ε.length + τ.length) else none) else if ε.length + τ.length ≤ k then some (k + 1) else some k
    | none => none
  have at_ : ∀ a k, φ a = some k → φ' a = if k = i then (if a ∈ A then some (ε.length + τ.length) else none) else if ε.length + τ.length ≤ k then some (k + 1) else some k := fun a k q => by
    show (match φ a with
      | some k => if k = i then (if a ∈ A then some (ε.length + τ.length) else none) else if ε.length + τ.length ≤ k then some (k + 1) else some k
      | none => none) = _
    rw [q]
  refine ⟨φ', S.step (R := fun k => k ≠ i ∧ k < ε.length + τ.length) (Stp.tag S (fun a j q hj => ?_) fun a j q => ?_) (by rw [List.length_set]; exact S.len) (List.length_set ..) S.fix (fun j w' h' => ?_) fun j w' v' h' => ?_⟩
  · have hj2 : j < ε.length + τ.length := hj.2
    rw [at_ a j q, if_neg hj.1, if_neg (by omega)]
  · cases z : φ a with
    | none =>
      have : φ' a = none := by
        show (match φ a with
          | some k => if k = i then (if a ∈ A then some (ε.length + τ.length) else none) else if ε.length + τ.length ≤ k then some (k + 1) else some k
          | none => none) = _
        rw [z]
      rw [this] at q
      cases q
    | some k => exact ⟨k, rfl⟩
  · rcases set_get h' with ⟨rfl, e⟩ | ⟨ne, h'⟩
    · cases e
      exact .inr ⟨v, [], ok, by rw [rep_v]; exact ⟨rfl, rfl⟩, List.nodup_nil, fun a ha => nomatch ha⟩
    · obtain ⟨hj, _⟩ := List.getElem?_eq_some_iff.mp h'
      exact .inl ⟨⟨ne, by omega⟩, h', rfl⟩
  · by_cases hj : j < τ.length
    · rw [List.getElem?_append_left hj] at h'
      exact .inl ⟨⟨by omega, by omega⟩, by rw [List.getElem?_append_left hj]; exact h'⟩
    · rw [List.getElem?_append_right (by omega)] at h'
      cases m : j - τ.length with
      | zero =>
        rw [m] at h'
        have e : (w, v) = (w', v') := Option.some.inj h'
        cases e
        refine .inr ⟨A, rA, nd, fun a ha => ?_⟩
        rw [at_ a i (hA a ha), if_pos rfl, if_pos ha]
        congr 1
        omega
      | succ n =>
        rw [m, List.getElem?_cons_succ] at h'
        have h2 : (τ ++ r)[j - 1]? = some (w', v') := by
          rw [List.getElem?_append_right (by omega), show j - 1 - τ.length = n by omega]
          exact h'
        obtain ⟨B, rB, nB, hB⟩ := S.tmp (j - 1) w' v' h2
        refine .inr ⟨B, rB, nB, fun a ha => ?_⟩
        rw [at_ a _ (hB a ha), if_neg (by omega), if_pos (by omega)]
        congr 1
        omega
theorem evTs_app : ∀ (xs : List EV) (vs : List V) (τ : List (W × V)), evTs τ xs vs = τ ++ evTs [] xs vs
  | [], _, τ => by simp [evTs]
  | _ :: _, [], τ => by simp [evTs]
  | x :: xs, v :: vs, τ => by
    show evTs (evT x v τ) xs vs = τ ++ evTs (evT x v []) xs vs
    rw [evTs_app xs vs (evT x v τ), evTs_app xs vs (evT x v [])]
    cases x <;> simp [evT]
def lateW : List EV → Env → (List EV → Env → Prop) → Prop
  | [], ε, Q => Q [] ε
  | .sl i :: xs, ε, Q => ∃ w, ε[i]? = some (some w) ∧ ∀ u, lateW xs (ε.set i (some (.v u))) fun ys ε' => Q (.fl i [] u w :: ys) ε'
  | .v w :: xs, ε, Q => lateW xs ε fun ys ε' => Q (.v w :: ys) ε'
  | .fl i p u w :: xs, ε, Q => lateW xs ε fun ys ε' => Q (.fl i p u w :: ys) ε'
theorem late_core {G : Prop} : ∀ {xs : List EV} {vs : List V} {τ : List (W × V)} {φ : Addr → Option Nat} {ε : Env} {Q : List EV → Env → Prop}, Sta K E F φ ε σ H (evTs τ xs vs) → evOks σ xs vs → lateW xs ε Q →
    (∀ ys φ' ε', Sta K E F φ' ε' σ H (evTs τ ys vs) → evOks σ ys vs → Q ys ε' → G) → G
  | [], [], τ, φ, ε, Q, S, ok, h, k => k [] φ ε S ok h
  | [], _ :: _, _, _, _, _, _, ok, _, _ => ok.elim
  | _ :: _, [], _, _, _, _, _, ok, _, _ => ok.elim
  | .v w :: xs, v :: vs, τ, φ, ε, Q, S, ok, h, k => late_core (xs := xs) (vs := vs) (τ := τ ++ [(w, v)]) (Q := fun ys ε' => Q (.v w :: ys) ε') S ok.2 h fun ys φ' ε' S' ok' h' => k (.v w :: ys) φ' ε' S' ⟨ok.1, ok'⟩ h'
  | .fl i p u w :: xs, v :: vs, τ, φ, ε, Q, S, ok, h, k => late_core (xs := xs) (vs := vs) (τ := τ ++ [(w, v)]) (Q := fun ys ε' => Q (.fl i p u w :: ys) ε') S ok.2 h fun ys φ' ε' S' ok' h' => k (.fl i p u w :: ys) φ' ε' S' ⟨ok.1, ok'⟩ h'
  | .sl i :: xs, v :: vs, τ, φ, ε, Q, S, ok, h, k => by
    obtain ⟨w, e, h⟩ := h
    have S1 : Sta K E F φ ε σ H (τ ++ evTs [] xs vs) := by
      rw [← evTs_app]
      exact S
    obtain ⟨φ2, S2⟩ := S1.lendAt (i := i) (v := v) ok.1 e
    have S3 : Sta K E F φ2 (ε.set i (some (.v v))) σ H (evTs (τ ++ [(w, v)]) xs vs) := by
      rw [evTs_app, List.append_assoc]
      exact S2
    exact late_core (xs := xs) (vs := vs) (τ := τ ++ [(w, v)]) S3 ok.2 (h v) fun ys φ' ε' S' ok' h' => k (.fl i [] v w :: ys) φ' ε' S' ⟨rfl, ok'⟩ h'
end
def tLate (t : TAA) : TAA := fun ε Q => t ε fun xs ε1 => lateW xs ε1 Q
theorem aa_late {X : Cx} {es : List Expr} {t : TAA} (h : AA X es t) : AA X es (tLate t) := by
  obtain ⟨tH, p, q⟩ := h.ex
  refine ⟨tH, p, fun E F φ ε σ H τ Q QH S h k => ?_⟩
  refine q E F φ ε σ H τ _ _ S h fun xs vs F1 φ1 ε1 H1 S1 ok h1 => ?_
  exact late_core S1 ok h1 fun ys φ' ε' S' ok' h' => k ys vs F1 φ' ε' H1 S' ok' h'
end Ab

namespace Ab
open PySem PySem.Spec PyProof.Rows L2

/-! ## isinstance -/
def tyN : PyData → Option String
  | .none => some "NoneType"
  | .bool _ => some "bool"
  | .int _ => some "int"
  | .str _ => some "str"
  | .list _ => some "list"
  | .tuple _ => some "tuple"
  | .dict _ => none
def tyC : W → Option String
  | .d x => tyN x
  | .lst _ => some "list"
  | .dk _ => none
  | _ => none
theorem SqL.tyX {K : PySem.W.Frag} {H : Hp} {a : Addr} {vs : List V} (h : SqL K H a vs) : TyX K H (.ref a) (.type "list") := by
  rcases h with (h | ⟨o, h⟩) | ⟨o, its, n, h, c, _⟩
  · exact .base (.lst h)
  · exact .base (.frz h)
  · exact .kList h c
theorem SqT.tyX {K : PySem.W.Frag} {H : Hp} {a : Addr} {vs : List V} (h : SqT K H a vs) : TyX K H (.ref a) (.type "tuple") := by
  rcases h with (h | ⟨o, h⟩) | ⟨o, its, n, h, c, _⟩
  · exact .base (.tup h)
  · exact .fTuple h
  · exact .kTuple h c
theorem ty_of {K : PySem.W.Frag} {F H : Hp} {w : W} {v : V} {A : List Addr} {T : String} (s : Same F H) (h : tyC w = some T) (r : Rep K F H w v A) : TyX K H v (.type T) := by
  cases w with
  | v x => cases h
  | dk x => cases h
  | ins _ _ => cases h
  | tup _ => cases h
  | lst ws =>
    cases h
    rw [rep_lst] at r
    obtain ⟨a, vs, B, rfl, _, q, _⟩ := r
    exact .base (.lst q)
  | d x =>
    rw [rep_d] at r
    cases x with
    | none => cases h; rw [dq_none] at r; rw [r.1]; exact .base .non
    | bool b => cases h; rw [dq_bool] at r; rw [r.1]; exact .base (.bl b)
    | int b => cases h; rw [dq_int] at r; rw [r.1]; exact .base (.int b)
    | str b => cases h; rw [dq_str] at r; rw [r.1]; exact .base (.str b)
    | list ds =>
      cases h
      rw [dq_list] at r
      obtain ⟨⟨a, vs, rfl, q, _⟩, _⟩ := r
      exact SqL.tyX (s.seq q)
    | tuple ds =>
      cases h
      rw [dq_tup] at r
      obtain ⟨⟨a, vs, rfl, q, _⟩, _⟩ := r
      exact SqT.tyX (s.sqT q)
    | dict ds => cases h
section
variable {X : Cx} {a b c e : Expr} {ta tb tc te : TEA} {pos : Pos} {x : Str}
inductive IsiR : List W → W → Prop
  | mk {w : W} {T n : String} {b : Bool} (h : tyC w = some T) (k : kitB T n = some b) : IsiR [w, .v (.ty n)] (.d (.bool b))
theorem ca_isi : ClA X (.builtin "isinstance") IsiR := ⟨_, call_isi, fun F H ws vs res QH s c hr k => by
  cases hr with
  | mk h hb =>
    obtain ⟨v, z, A, B, rfl, r, q⟩ := cont2 c
    rw [rep_v] at q
    rw [q.1]
    exact ⟨v, _, _, _, _, rfl, .ty _, ty_of s h r, kit_ty hb, k _ F H (New.pure (by rw [dq_bool]))⟩⟩
/-- the name of a built-in type -/
theorem ae_ty {n : String} (hg : Gl X x) (hm : X.mg x = none) (hv : bootBuiltins x = some (.type n)) (hn : x ≠ "__name__" := by decide) (hd : (x == ("__debug__" : Str)) = false := by decide) : AE X (.Name x pos) (tK (.v (.ty n))) :=
  ⟨_, pe_bltn hg hm hv (v := .ty n) rfl hn hd, fun E F φ ε σ H τ Q QH S h k => by
    obtain ⟨φ', S'⟩ := S.new (New.raw (x := .ty n))
    exact k (.v (.v (.ty n))) _ F φ' ε H S' True.intro h⟩
/-! ## chains of two comparisons, of data -/
def tChainA (R R' : W → W → W → Prop) (ta tb tc : TEA) : TEA := fun ε Q => ta ε fun x ε1 => tb ε1 fun y ε2 => ∃ dx dy k, x = .v (.d dx) ∧ y = .v (.d dy) ∧ R (.d dx) (.d dy) (.d (.bool k)) ∧
  if k = true then tc ε2 fun z ε3 => ∃ dz r, z = .v (.d dz) ∧ R' (.d dy) (.d dz) (.d r) ∧ Q (.v (.d r)) ε3 else Q (.v (.d (.bool false))) ε2
theorem chain_core {op op' : CmpOp} {R R' : W → W → W → Prop} {r r' : R2} {tHa tHb tHc : TE}
    (qo : ∀ F H wx wy vx vy A B res (QH : VK), Same F H → Rep X.K F H wx vx A → Rep X.K F H wy vy B → R wx wy res → (∀ v F' H', New X.K F H res v F' H' → QH v H') → r vx vy H QH)
    (qo' : ∀ F H wx wy vx vy A B res (QH : VK), Same F H → Rep X.K F H wx vx A → Rep X.K F H wy vy B → R' wx wy res → (∀ v F' H', New X.K F H res v F' H' → QH v H') → r' vx vy H QH)
    (qa : ∀ (E : Ent) F φ ε σ H τ (Q : EV → Env → Prop) (QH : VK), Sta X.K E F φ ε σ H τ → ta ε Q → (∀ rv v F' φ' ε' H', Sta X.K E F' φ' ε' σ H' (evT rv v τ) → evOk rv σ v → Q rv ε' → QH v H') → tHa σ H QH)
    (qb : ∀ (E : Ent) F φ ε σ H τ (Q : EV → Env → Prop) (QH : VK), Sta X.K E F φ ε σ H τ → tb ε Q → (∀ rv v F' φ' ε' H', Sta X.K E F' φ' ε' σ H' (evT rv v τ) → evOk rv σ v → Q rv ε' → QH v H') → tHb σ H QH)
    (qc : ∀ (E : Ent) F φ ε σ H τ (Q : EV → Env → Prop) (QH : VK), Sta X.K E F φ ε σ H τ → tc ε Q → (∀ rv v F' φ' ε' H', Sta X.K E F' φ' ε' σ H' (evT rv v τ) → evOk rv σ v → Q rv ε' → QH v H') → tHc σ H QH)
    {E : Ent} {F H : Hp} {φ : Addr → Option Nat} {ε : Env} {σ : L2.St} {τ : List (W × V)} {Q : EV → Env → Prop} {QH : VK} (S : Sta X.K E F φ ε σ H τ) (h : tChainA R R' ta tb tc ε Q)
    (k : ∀ rv v F' φ' ε' H', Sta X.K E F' φ' ε' σ H' (evT rv v τ) → evOk rv σ v → Q rv ε' → QH v H') : L2.tChain r r' tHa tHb tHc σ H QH := by
  refine qa E F φ ε σ H τ _ _ S h fun x vx F1 φ1 ε1 H1 S1 ok1 h1 => ?_
  refine qb E F1 φ1 ε1 σ H1 _ _ _ S1 h1 fun y vy F2 φ2 ε2 H2 S2 ok2 h2 => ?_
  obtain ⟨dx, dy, kb, rfl, rfl, hR, h3⟩ := h2
  have S2 : Sta X.K E F2 φ2 ε2 σ H2 (τ ++ [(W.d dx, vx)] ++ [(W.d dy, vy)]) := S2
  obtain ⟨A1, rx, _, _⟩ := (Sta.drop S2).tmp τ.length _ vx getE_last
  obtain ⟨A2, ry, _, _⟩ := S2.tmp (τ ++ [(W.d dx, vx)]).length _ vy getE_last
  refine qo F2 H2 _ _ vx vy A1 A2 _ _ S2.sub rx ry hR fun v F3 H3 n => ?_
  obtain ⟨φ3, S3⟩ := S2.new n
  obtain ⟨A3, r3, _, _⟩ := S3.tmp (τ ++ [(W.d dx, vx)] ++ [(W.d dy, vy)]).length _ v getE_last
  rw [rep_d, dq_bool] at r3
  refine ⟨kb, r3.1, ?_⟩
  have S4 := Sta.drop S3
  cases kb with
  | false =>
    rw [if_neg (by simp)] at h3 ⊢
    obtain ⟨φ5, S5⟩ := (Sta.drop (Sta.drop S4)).pushD (x := .bool false) (v := .bl false) (by rw [dq_bool])
    exact k (.v (.d (.bool false))) _ F3 φ5 ε2 H3 S5 True.intro h3
  | true =>
    rw [if_pos rfl] at h3 ⊢
    refine qc E F3 φ3 ε2 σ H3 _ _ _ S4 h3 fun z vz F5 φ5 ε5 H5 S5 ok5 h5 => ?_
    obtain ⟨dz, r, rfl, hR', hq⟩ := h5
    have S5 : Sta X.K E F5 φ5 ε5 σ H5 (τ ++ [(W.d dx, vx)] ++ [(W.d dy, vy)] ++ [(W.d dz, vz)]) := S5
    obtain ⟨B1, ry', _, _⟩ := (Sta.drop S5).tmp (τ ++ [(W.d dx, vx)]).length _ vy getE_last
    obtain ⟨B2, rz, _, _⟩ := S5.tmp (τ ++ [(W.d dx, vx)] ++ [(W.d dy, vy)]).length _ vz getE_last
    refine qo' F5 H5 _ _ vy vz B1 B2 _ _ S5.sub ry' rz hR' fun v6 F6 H6 n6 => ?_
    obtain ⟨φ6, S6⟩ := (Sta.drop (Sta.drop (Sta.drop S5))).new n6
    exact k (.v (.d r)) v6 F6 φ6 ε5 H6 S6 True.intro hq
theorem ae_chain {op op' : CmpOp} {R R' : W → W → W → Prop} (ho : OpA X (compareOp op) R) (ho' : OpA X (compareOp op') R') (ha : AE X a ta) (hb : AE X b tb) (hc : AE X c tc) (hm : lastMarks [op, op'] [b, c] = false := by first | rfl | with_unfolding_all rfl) :
    AE X (.Compare a [op, op'] [b, c] pos) (tChainA R R' ta tb tc) := by
  obtain ⟨_, po, qo⟩ := ho.ex
  obtain ⟨_, po', qo'⟩ := ho'.ex
  obtain ⟨_, pa, qa⟩ := ha.ex
  obtain ⟨_, pb, qb⟩ := hb.ex
  obtain ⟨_, pc, qc⟩ := hc.ex
  exact ⟨_, pe_chain po po' pa pb pc hm, fun E F φ ε σ H τ Q QH S h k => chain_core (op := op) (op' := op') qo qo' qa qb qc S h k⟩
theorem at_chain {op op' : CmpOp} {R R' : W → W → W → Prop} (ho : OpA X (compareOp op) R) (ho' : OpA X (compareOp op') R') (ha : AE X a ta) (hb : AE X b tb) (hc : AE X c tc) (hm : lastMarks [op, op'] [b, c] = false := by first | rfl | with_unfolding_all rfl) :
    AT X (.Compare a [op, op'] [b, c] pos) (tBl (tChainA R R' ta tb tc)) := by
  obtain ⟨_, po, qo⟩ := ho.ex
  obtain ⟨_, po', qo'⟩ := ho'.ex
  obtain ⟨_, pa, qa⟩ := ha.ex
  obtain ⟨_, pb, qb⟩ := hb.ex
  obtain ⟨_, pc, qc⟩ := hc.ex
  exact ⟨_, pt_chain po po' pa pb pc hm, fun E F φ ε σ H τ Q QH S h k => bl_core (t := tChainA R R' ta tb tc) (fun E F φ ε σ H τ Q QH S h k => chain_core (op := op) (op' := op') qo qo' qa qb qc S h k) S h k⟩
/-! ## all(a list of bools), the signs of a text walked -/
inductive AllR : List W → W → Prop
  | mk {w : W} {bs : List Bool} (h : DL w (bs.map PyData.bool)) : AllR [w] (.d (.bool (bs.all id)))
theorem dqs_bools {K : PySem.W.Frag} {F : Hp} : ∀ {bs : List Bool} {vs : List V}, Dqs K F (bs.map PyData.bool) vs → vs = bs.map V.bl
  | [], vs, h => by rw [List.map_nil, dqs_nil] at h; exact h
  | b :: bs, vs, h => by
    rw [List.map_cons, dqs_cons] at h
    obtain ⟨v, r, rfl, p, q⟩ := h
    rw [dq_bool] at p
    rw [p, dqs_bools q]
    rfl
theorem ca_all (hc : X.calm = true) : ClA X (.builtin "all") AllR := ⟨_, cr_all hc, fun F H ws vs res QH s c hr k => by
  cases hr with
  | @mk w bs h =>
    obtain ⟨v, A, rfl, r⟩ := cont1 c
    obtain ⟨a, us, rfl, q, d⟩ := h.ok s r
    rw [dqs_bools d] at q
    exact ⟨a, bs, rfl, q, k _ F H (New.pure (by rw [dq_bool]))⟩⟩
def iS (te : TEA) : TIA := fun ε R => te ε fun rv ε1 => ∃ x, rv = .v (.d (.str x)) ∧ R rv (chD x) ε1
theorem ai_str {tg : Expr} (h : AE X e te) : AI X tg e (iS te) := by
  obtain ⟨_, p, q⟩ := h.ex
  refine ⟨_, pi_str p, fun E F φ ε σ H τ R RH S h k => ?_⟩
  refine q E F φ ε σ H τ _ _ S h fun rv v F1 φ1 ε1 H1 S1 ok h1 => ?_
  obtain ⟨x, rfl, h1⟩ := h1
  obtain ⟨A, r, _, _⟩ := Sta.view (rv := .v (.d (.str x))) (v := v) S1 True.intro rfl
  rw [rep_d, dq_str] at r
  have lc : (chD x).length = x.cps.size := by simp [chD]
  refine ⟨x, r.1, k (.v (.d (.str x))) v (.d (.str x)) (chD x) (Its x) F1 φ1 ε1 H1 S1 True.intro rfl ⟨fun i F H hi s g => ?_, fun i F H hi s g => ?_, fun i d F H y H' hd s g yy => ?_⟩ h1⟩
  · show i < x.cps.size
    omega
  · show x.cps.size ≤ i
    omega
  · obtain ⟨rfl, c, hc, rfl⟩ := yy
    refine ⟨F, New.pure ?_⟩
    unfold chD at hd
    rw [List.getElem?_map] at hd
    obtain ⟨c', hc', rfl⟩ := Option.map_eq_some_iff.mp hd
    rw [Array.getElem?_toList] at hc'
    rw [hc] at hc'
    cases hc'
    rw [dq_str]
end
end Ab

namespace Ab
open PySem PySem.Spec PyProof.Rows L2

/-! ## methods, classes and constants by name -/
structure MeD (P : Program) (w : World) (K : PySem.W.Frag) (mg : Str → Option Value) (base : Heap) (k : Nat) (C : Addr) (m : Str) (sp : SpW) : Prop where
  ex : ∃ (f : Addr) (fd : FuncData) (ps : List Str), Cls K C ∧ Meth K C m f ∧ FnOk P w K mg base CX0 k f fd ps (spA K sp) ∧ Binds K fd ps [] ∧ SpW.Mono sp
structure MkD (P : Program) (w : World) (K : PySem.W.Frag) (mg : Str → Option Value) (base : Heap) (k : Nat) (x : Str) (C : Addr) (sp : SpW) : Prop where
  ex : ∃ (f : Addr) (fd : FuncData) (ps : List Str), Mk K C f ∧ FnOk P w K mg base CX0 k f fd ps (spA K sp) ∧ mg x = some (.ref C) ∧ Binds K fd ps [] ∧ SpW.Mono sp
/-- a module's constant that is a datum -/
structure CnD (K : PySem.W.Frag) (mg : Str → Option Value) (x : Str) (d : PyData) : Prop where
  ex : ∃ u y, mg x = some u ∧ RelV y u ∧ ∀ F, Dq K F d y
theorem CnD.str {K : PySem.W.Frag} {mg : Str → Option Value} {x s : Str} {t : Tok} (h : mg x = some (.str s t)) : CnD K mg x (.str s) := ⟨_, .str s, h, ⟨t, rfl⟩, fun F => by rw [dq_str]⟩
theorem CnD.int {K : PySem.W.Frag} {mg : Str → Option Value} {x : Str} {i : Int} {t : Tok} (h : mg x = some (.int i t)) : CnD K mg x (.int i) := ⟨_, .int i, h, ⟨t, rfl⟩, fun F => by rw [dq_int]⟩
theorem CnD.tup1 {K : PySem.W.Frag} {mg : Str → Option Value} {x s : Str} {a : Addr} {t : Tok} {n : Nat} {od : Option Addr} {sl : Array (Option Value)} (h : mg x = some (.ref a)) (l : K.lookup a = some ⟨.type "tuple", od, .seq #[.str s t] n, sl⟩) : CnD K mg x (.tuple [.str s]) :=
  ⟨_, .ref a, h, rfl, fun F => by
    rw [dq_tup]
    refine ⟨a, [.str s], rfl, .inr ⟨_, _, _, l, rfl, rfl, by show 1 ≤ sizeLine; decide, .cons ⟨t, rfl⟩ .nil⟩, ?_⟩
    rw [dqs_cons]
    exact ⟨_, [], rfl, by rw [dq_str], by rw [dqs_nil]⟩⟩
section
variable {X : Cx} {j k : Nat} {C : Addr} {x m : Str} {e o : Expr} {es : List Expr} {to : TEA} {t : TAA} {p pos apos : Pos} {sp : SpW} {d : PyData}
theorem ae_cn (h : CnD X.K X.mg x d) (hg : Gl X x := by rfl) (hd : (x == ("__debug__" : Str)) = false := by decide) : AE X (.Name x pos) (tK (.d d)) := by
  obtain ⟨u, y, h1, h2, h3⟩ := h.ex
  exact ae_glob hg h1 h2 h3 hd
theorem ae_med {pl : Sem Bool} (D : MeD X.prog X.w X.K X.mg X.base k C m sp) (hr : Room j X.A) (he : AE X o to) (ha : AA X (e :: es) t) (hk : k ≤ j := by omega)
    (hst : starEach (e :: es) X.env = (false, eval e X.env) :: starEach es X.env := by rfl) (hpl : (backTo pos (starEach es X.env)).any (·.1) = false := by rfl)
    (ht : eval (.Call (.Attribute o m apos) (e :: es) [] pos) X.env = (do
      let ov ← eval o X.env
      standAt apos.atName
      let (f, first) ← holding [ov] (getMethod ov m pl)
      callWith pos f first (backTo pos (starEach (e :: es) X.env)) (backToKw pos (keywordEach [] X.env))) := by rfl) :
    AE X (.Call (.Attribute o m apos) (e :: es) [] pos) (tMeth C m sp to t) := by
  obtain ⟨f, fd, ps, c, hm, F, hb, mo⟩ := D.ex
  exact ae_meth (pl := pl) he c hm F mo (hr.mono hk) hb ha hst hpl ht
theorem ae_med0 {pl : Sem Bool} (D : MeD X.prog X.w X.K X.mg X.base k C m sp) (hr : Room j X.A) (he : AE X o to) (hk : k ≤ j := by omega)
    (ht : eval (.Call (.Attribute o m apos) [] [] pos) X.env = (do
      let ov ← eval o X.env
      standAt apos.atName
      let (f, first) ← holding [ov] (getMethod ov m pl)
      callWith pos f first (backTo pos (starEach [] X.env)) (backToKw pos (keywordEach [] X.env))) := by rfl) :
    AE X (.Call (.Attribute o m apos) [] [] pos) (tMeth C m sp to tNil) := by
  obtain ⟨f, fd, ps, c, hm, F, hb, mo⟩ := D.ex
  exact ae_meth0 (pl := pl) he c hm F mo (hr.mono hk) hb ht
theorem ae_mkd0 (D : MkD X.prog X.w X.K X.mg X.base k x C sp) (hr : Room j X.A) (hk : k + 1 ≤ j := by omega) (hg : Gl X x := by rfl) (hdb : (x == ("__debug__" : Str)) = false := by decide) : AE X (.Call (.Name x p) [] [] pos) (tMake C sp tNil) := by
  obtain ⟨f, fd, ps, M, F, hm, hb, mo⟩ := D.ex
  exact ae_make0 M F mo (hr.mono hk) hg hm hb hdb
theorem ae_mkd (D : MkD X.prog X.w X.K X.mg X.base k x C sp) (hr : Room j X.A) (ha : AA X (e :: es) t) (hk : k + 1 ≤ j := by omega) (hg : Gl X x := by rfl) (hdb : (x == ("__debug__" : Str)) = false := by decide)
    (he : starEach (e :: es) X.env = (false, eval e X.env) :: starEach es X.env := by rfl) (hpl : (backTo pos (starEach es X.env)).any (·.1) = false := by rfl) : AE X (.Call (.Name x p) (e :: es) [] pos) (tMake C sp t) := by
  obtain ⟨f, fd, ps, M, F, hm, hb, mo⟩ := D.ex
  exact ae_make M F mo (hr.mono hk) hg hm hb ha hdb he hpl
end
end Ab

namespace Ab
open PySem PySem.Spec PyProof.Rows L2
/-! # texts, and dicts that change -/
section
variable {X : Cx} {T id : String} {name : Str} {o e : Expr} {es : List Expr} {to te : TEA} {t : TAA} {apos cpos pos mpos p : Pos}
theorem ae_rd0 {R : W → List W → W → Prop} (pa : PlainAttrs T) (slot : Slot T name id) (hty : typeOf (.builtin id) = pure (.type "method_descriptor")) (hm : RdA X id R) (ho : AE X o to)
    (hbase : attributeBase o name X.env (eval o X.env) = eval o X.env := by rfl) (hline : (apos.endLine == cpos.line) = true := by rfl) : AE X (.Call (.Attribute o name apos) [] [] cpos) (tRd T R to tNil) := by
  obtain ⟨r, pm, qm⟩ := hm.ex
  obtain ⟨_, po, qo⟩ := ho.ex
  refine ⟨_, pe_bm0 pa slot hty pm po hbase hline, fun E F φ ε σ H τ Q QH S h k => ?_⟩
  refine qo E F φ ε σ H τ _ _ S h fun x v F1 φ1 ε1 H1 S1 ok1 h1 => ?_
  obtain ⟨w0, c0, ty, h1⟩ := h1
  obtain ⟨A, rA, _, _⟩ := S1.view ok1 c0
  exact ⟨tyW_ok S1.sub ty rA, rd_core (xs := []) (vs := []) qm S1 ok1 True.intro h1 k⟩
/-- a text alone -/
inductive StR0 (C : Str → Prop) (g : Str → PyData) : W → List W → W → Prop
  | mk {x : Str} (h : C x) : StR0 C g (.d (.str x)) [] (.d (g x))
theorem rd_st0 {C : Str → Prop} {g : Str → PyData} {gv : Str → V} (hg : ∀ x F, Dq X.K F (g x) (gv x)) (hm : MtR X id (fun x xs H Q => ∃ a, x = .str a ∧ xs = [] ∧ C a ∧ Q (gv a) H)) : RdA X id (StR0 C g) :=
  ⟨_, hm, fun F H w ws v vs res QH s c hr k => by
    cases hr with
    | @mk x hc =>
      obtain ⟨⟨A, r⟩, c2⟩ := (show (∃ A, Rep X.K F H (.d (.str x)) v A) ∧ Cont X.K F H [] vs from c)
      rw [rep_d, dq_str] at r
      match vs, c2 with
      | [], _ => exact ⟨x, r.1, rfl, hc, k _ F H (New.pure (hg x F))⟩⟩
theorem mt_isidentifier : MtR X "str.isidentifier" (fun x xs H Q => ∃ a, x = .str a ∧ xs = [] ∧ True ∧ Q (.bl (Txt.isidentifier a)) H) :=
  mt0 (C := fun _ => True) (g := fun a => .bl (Txt.isidentifier a)) fun _ _ s _ _ h => PySem.SC.isidentifier (h _ s.toks rfl)
abbrev IsAsciiR := StR0 (fun _ => True) fun x => .bool (Txt.isascii x)
abbrev IsIdentR := StR0 (fun _ => True) fun x => .bool (Txt.isidentifier x)
abbrev LowerR := StR0 (fun x => x.length ≤ 5592405) fun x => .str (Txt.lower x)
theorem rd_isascii : RdA X "str.isascii" IsAsciiR := rd_st0 (gv := fun x => .bl (Txt.isascii x)) (fun x F => by rw [dq_bool]) mt_isascii
theorem rd_isident : RdA X "str.isidentifier" IsIdentR := rd_st0 (gv := fun x => .bl (Txt.isidentifier x)) (fun x F => by rw [dq_bool]) mt_isidentifier
theorem rd_lower : RdA X "str.lower" LowerR := rd_st0 (gv := fun x => .str (Txt.lower x)) (fun x F => by rw [dq_str]) mt_lower
/-- join over a row of texts -/
inductive JoinR : W → List W → W → Prop
  | L {x : Str} {w : W} {ys : List Str} (h : DL w (ys.map PyData.str)) (l : (ys.map (·.length)).sum + ys.length * x.length ≤ 16777216) : JoinR (.d (.str x)) [w] (.d (.str (Txt.join x ys)))
theorem dqs_strs {K : PySem.W.Frag} {F : Hp} : ∀ {ys : List Str} {vs : List V}, Dqs K F (ys.map PyData.str) vs → vs = ys.map V.str
  | [], vs, h => by rw [List.map_nil, dqs_nil] at h; exact h
  | y :: ys, vs, h => by
    rw [List.map_cons, dqs_cons] at h
    obtain ⟨v, r, rfl, p, q⟩ := h
    rw [dq_str] at p
    rw [p, dqs_strs q]
    rfl
theorem rd_join : RdA X "str.join" JoinR := ⟨_, mt_join, fun F H w ws v vs res QH s c hr k => by
  cases hr with
  | @L x w ys h l =>
    obtain ⟨⟨A, r⟩, c2⟩ := (show (∃ A, Rep X.K F H (.d (.str x)) v A) ∧ Cont X.K F H [w] vs from c)
    rw [rep_d, dq_str] at r
    obtain ⟨v2, A2, rfl, r2⟩ := cont1 c2
    obtain ⟨a, us, rfl, sq, dq⟩ := h.ok s r2
    rw [dqs_strs dq] at sq
    exact ⟨x, a, ys, r.1, rfl, .inl sq, l, k _ F H (New.pure (by rw [dq_str]))⟩⟩
/-! ## d.pop(k) -/
def rDPop : V → List V → Hp → VK → Prop := fun x xs H Q => ∃ a kvs k v, x = .ref a ∧ xs = [kV k] ∧ H a = some (.dK kvs) ∧ valV kvs k = some v ∧ Q v (upd H a (.dK (dropK kvs k)))
theorem mt_dpop : MtR X "dict.pop" rDPop := by
  intro pins s σ H x xs v us Q I rx rs h
  obtain ⟨a, kvs, k, z, rfl, rfl, ha, l, q⟩ := h
  obtain rfl : v = Value.ref a := rx
  cases rs with
  | cons r1 rs =>
    cases rs
    exact d_pop I ha r1 l (.inl rfl) fun w' s' I' r' => ⟨z, _, I', r', q⟩
def dropD (ds : List (Key × PyData)) (k : Key) : List (Key × PyData) := ds.filter fun q => decide (q.1 ≠ k)
theorem Dkv.drop {K : PySem.W.Frag} {F : Hp} (k : Key) : ∀ {ds : List (Key × PyData)} {us : List (Key × V)}, Dkv K F ds us → Dkv K F (dropD ds k) (dropK us k)
  | [], us, r => by rw [show us = [] from r]; rfl
  | (j, d) :: ds, us, ⟨v, r', e, p, q⟩ => by
    subst e
    unfold dropD dropK
    rw [List.filter_cons, List.filter_cons]
    by_cases h : j = k
    · rw [if_neg (by simpa using h), if_neg (by simpa using h)]
      exact Dkv.drop k q
    · rw [if_pos (by simpa using h), if_pos (by simpa using h)]
      exact ⟨v, _, rfl, p, Dkv.drop k q⟩
inductive DPopR : W → List W → W → W → Prop
  | mk {ds : List (Key × PyData)} {k : Key} {d : PyData} (h : valD ds k = some d) : DPopR (WD ds) [.d (kD k)] (WD (dropD ds k)) (.d d)
theorem mu_dpop : MuA X "dict.pop" DPopR := ⟨_, mt_dpop, fun F H w ws w' res v vs A B QH s rA rB nd hn hr kk => by
  cases hr with
  | @mk ds k d h =>
    rw [rep_dk] at rA
    obtain ⟨a, us, C, rfl, rfl, ha, rC⟩ := rA
    obtain ⟨dk, rfl⟩ := rC.toD
    obtain ⟨u, rfl, r1⟩ := reps_one rB
    rw [rep_d] at r1
    obtain ⟨r1, rfl⟩ := r1
    have e := dq_key r1
    subst e
    rcases dk.val k with ⟨z, _⟩ | ⟨d', v', e1, e2, e3⟩
    · rw [h] at z; cases z
    · rw [h] at e1
      cases e1
      refine ⟨a, us, k, v', rfl, rfl, ha, e2, kk v' _ [] [a] (fun b hb => upd_ne (fun e => hb (by rw [e]; exact List.mem_cons_self))) (fun b h => ?_) (by rw [rep_d]; exact ⟨e3, rfl⟩) ?_ (by simp) fun b hb => .inl (by simpa using hb)⟩
      · by_cases z : b = a
        · rw [z, upd_same] at h; cases h
        · rw [upd_ne z] at h; exact h
      · rw [rep_dk]
        exact ⟨a, _, [], rfl, rfl, upd_same, (dk.drop k).rep⟩⟩
/-! ## list(d.values()) -/
def tListVals (td : TE) : TE := fun σ H Q => td σ H fun x H1 => ∃ a kvs, x = V.ref a ∧ H1 a = some (.dK kvs) ∧ kvs.length ≤ 16777216 ∧ ∀ l, H1 l = none → Q (.ref l) (upd H1 l (.lst (kvs.map (·.2))))
theorem vals_of_at {xs : List V} {us : List Value} (hl : us.length = xs.length) (h : ∀ (i : Nat) (u : Value), us[i]? = some u → ∃ x, xs[i]? = some x ∧ RelV x u) : Vals xs us := by
  induction xs generalizing us with
  | nil =>
    cases us with
    | nil => exact .nil
    | cons _ _ => simp at hl
  | cons x xs ih =>
    cases us with
    | nil => simp at hl
    | cons u us =>
      obtain ⟨y, e, r⟩ := h 0 u rfl
      cases e
      exact .cons r (ih (by simpa using hl) fun i v e => h (i + 1) v (by simpa using e))
/-- the view that o.values() makes -/
abbrev viewV (a : Addr) : Obj := { cls := .type "dict_values", data := .fields #[.ref a] }
/-- the call o.values() is read plainly -/
structure ValsCall (X : Cx) (o : Expr) (ap mp : Pos) : Prop where
  b : attributeBase o "values" X.env (eval o X.env) = eval o X.env
  l : (ap.endLine == mp.line) = true
  s : starEach [Expr.Call (.Attribute o "values" ap) [] [] mp] X.env = [(false, eval (Expr.Call (.Attribute o "values" ap) [] [] mp) X.env)]
theorem pe_listVals {td : TE} (hc : X.calm = true) (hg : Gl X "list") (hm : X.mg "list" = none) (ho : PE X o td) (vc : ValsCall X o apos mpos) :
    PE X (.Call (.Name "list" p) [.Call (.Attribute o "values" apos) [] [] mpos] [] pos) (tListVals td) := ⟨fun pins s σ H Q I h => by
  refine wpAny_Call_Name_kw (ld_blt I hg hm (u := .type "list") (by first | rfl | decide +kernel) ?_ (by first | decide +kernel | decide) (by first | decide +kernel | decide))
  refine PyProof.Rows.callWith_type1 ?_ vc.s rfl
  rw [vc.s]
  refine Calls.spliced_cons (wpAny_Call_method0_late vc.b vc.l (thn (ho.run pins s σ H _ I h) fun v t ⟨x, G, J, rx, a, us, ex, ha, few, q⟩ => ?_))
  subst ex
  have ev : v = Value.ref a := rx
  subst ev
  obtain ⟨_, notSys, vs, kv, isD⟩ := dk_of J.hok ha
  obtain ⟨ep, at0⟩ := isD.dictAt
  have ⟨ob, _, hob, hex, _⟩ := at0
  have put : ∀ b u, t.heap.get? b = some u → (t.heap.push (viewV a)).get? b = some u := fun b u z => Heap.get?_push_of_some _ z
  refine ⟨"dict", "dict.values", F.plainAttrs_dict, F.slot_dict_values, F.type_dict_values, ⟨ob, hob, hex.1⟩, (fun b z => by cases z; exact ⟨ob, hob, hex.2.1⟩), Calls.callWith_builtin rfl (PySem.evalArgs_none ?_)⟩
  refine call_meetsIn F.slot_dict_values ⟨ob, hob, hex.1⟩ F.entry_dict_values (F.args_dict_values_1 _) (meets_dict_values (mixKind X.prog X.w) a notSys) ⟨⟨vs, isD⟩, Calls.spliced_nil ?_⟩
  have len : vs.length = us.length := (KV.length kv).symm
  have big : (t.heap.push (viewV a)).objs.size = t.heap.objs.size + 1 := Heap.size_push _ _
  refine PySem.W.kdl_call (PySem.W.kdl_values (r := t.heap.objs.size)) (I.ok.hd hc) ⟨⟨_, Heap.get?_push_size _ rfl, rfl, rfl⟩, at0.keep put⟩ (by rw [len]; exact few) fun h' tk acc c' kp made its => ?_
  have same : Vals (us.map (·.2)) acc.toList := vals_of_at (by rw [List.length_map, Array.length_toList, its.1, len]) fun i u z => by
    obtain ⟨k, hk⟩ := its.2 i u ((Array.getElem?_toList (xs := acc) (i := i)).symm.trans z)
    obtain ⟨y, z1, z2⟩ := KV.at' kv hk
    exact ⟨y, by rw [List.getElem?_map, z1]; rfl, z2⟩
  refine ⟨.ref _, _, J.laid (t' := tk) (a := (t.heap.push (viewV a)).objs.size) (o := .lst (us.map (·.2))) (fun b u z => kp b u (put b u z)) (by rw [big]; omega) ?_, rfl, q _ (J.hok.fresh (by rw [big]; omega))⟩
  exact ⟨by rw [List.length_map]; exact Nat.le_trans few (by decide), acc.toList, c', same, by rw [Array.toArray_toList]; exact made⟩⟩
theorem Dkv.vals {K : PySem.W.Frag} {F : Hp} : ∀ {ds : List (Key × PyData)} {us : List (Key × V)}, Dkv K F ds us → Dqs K F (ds.map (·.2)) (us.map (·.2))
  | [], us, r => by rw [show us = [] from r, List.map_nil, List.map_nil, dqs_nil]
  | (j, d) :: ds, us, ⟨v, r', e, p, q⟩ => by
    subst e
    rw [List.map_cons, List.map_cons, dqs_cons]
    exact ⟨v, _, rfl, p, Dkv.vals q⟩
def tLVals (to : TEA) : TEA := fun ε Q => to ε fun x ε1 => ∃ ds ε2, cnt ε1 x = some (WD ds) ∧ bck x ε1 = some ε2 ∧ ds.length ≤ 16777216 ∧ Q (.v (.lst ((ds.map (·.2)).map W.d))) ε2
theorem ae_lvals (hc : X.calm = true) (hg : Gl X "list") (hm : X.mg "list" = none) (ho : AE X o to) (vc : ValsCall X o apos mpos := by exact ⟨rfl, rfl, rfl⟩) :
    AE X (.Call (.Name "list" p) [.Call (.Attribute o "values" apos) [] [] mpos] [] pos) (tLVals to) := by
  obtain ⟨_, po, qo⟩ := ho.ex
  refine ⟨_, pe_listVals hc hg hm po vc, fun E F φ ε σ H τ Q QH S h k => ?_⟩
  refine qo E F φ ε σ H τ _ _ S h fun x v F1 φ1 ε1 H1 S1 ok1 h1 => ?_
  obtain ⟨ds, ε2, c, b, hl, h2⟩ := h1
  obtain ⟨A, r, _, _⟩ := S1.view ok1 c
  rw [rep_dk] at r
  obtain ⟨a, us, B, rfl, _, ha, q⟩ := r
  obtain ⟨dk, _⟩ := q.toD
  obtain ⟨φ2, S2⟩ := S1.back ok1 b
  refine ⟨a, us, rfl, ha, by rw [dk.len]; exact hl, fun l hl => ?_⟩
  obtain ⟨φ3, S3⟩ := S2.new (New.lst hl dk.vals)
  exact k (.v _) _ _ φ3 ε2 _ S3 True.intro h2
/-! ## minus -/
def tNeg (t : TEA) : TEA := fun ε Q => t ε fun x ε1 => ∃ i, x = .v (.d (.int i)) ∧ Q (.v (.d (.int (-i)))) ε1
theorem ae_neg (h : AE X e te) : AE X (.UnaryOp .USub e pos) (tNeg te) := by
  obtain ⟨_, pe, qe⟩ := h.ex
  refine ⟨_, pe_un un_neg pe, fun E F φ ε σ H τ Q QH S h k => ?_⟩
  refine qe E F φ ε σ H τ _ _ S h fun x v F1 φ1 ε1 H1 S1 ok1 h1 => ?_
  obtain ⟨i, rfl, h1⟩ := h1
  obtain ⟨r, S2⟩ := one_v S1
  rw [dq_int] at r
  obtain ⟨φ2, S3⟩ := S2.pushD (x := .int (-i)) (v := .int (-i)) (by rw [dq_int])
  exact ⟨i, r, k (.v (.d (.int (-i)))) _ F1 φ2 ε1 H1 S3 True.intro h1⟩
end
end Ab

namespace Ab
open PySem PySem.Spec PyProof.Rows L2
/-! # join over the keys of a dict -/
theorem noLenKi : typeLookup (.type "dict_keyiterator") "__len__" = pure none := by
  rw [typeLookup_type, builtinLookup_eq_fast]
  kernel_rfl
theorem hintKi : typeLookup (.type "dict_keyiterator") "__length_hint__" = pure (some (.builtin "dict_keyiterator.__length_hint__")) := by
  rw [typeLookup_type, builtinLookup_eq_fast]
  kernel_rfl
section
variable {prog : Program} {w : World} {A : Around} {E : Value → Shared → Prop} {s : Shared}
/-- what a dict's key iterator hands out, gathered -/
theorem collect_ki {I : Addr} {fp wr : List Addr} {G : Array GenState → Array GenState → Prop} {n : Nat} {P : Nat → Value → Prop} {St : Nat → Shared → Prop} {Q : List Value → Shared → Prop}
    (W : WalksS prog w A.in1 I fp wr G n P St) (ty : ∀ i s, St i s → s.TypeIs (.ref I) "dict_keyiterator") (st0 : St 0 s) (lt : ∀ b ∈ fp, b < s.heap.objs.size) (mem : I ∈ fp) (few : n ≤ sizeLine)
    (k : ∀ s' acc, Moved wr G s s' → ItemsOf P acc n → Q acc.toList s') : wpAny (model prog w) A (collect (.ref I)) Q E s := by
  have nf : s.heap.objs.size ∉ fp := fun z => Nat.lt_irrefl _ (lt _ z)
  have ni : s.heap.objs.size ≠ I := fun z => nf (z ▸ mem)
  unfold collect
  refine wpAny_bind (wpAny_runValue (codeAny_builtin PySem.F.entry_proto_collect ?_))
  rw [Around.under_plainId PySem.F.plain_proto_collect _]
  change wpAny _ A.in1 (newList [] >>= fun l => again (.builtin "list.__iadd__" ⟨[l, .ref I], []⟩)) _ _ s
  refine wpAny_bind (wpAny_newObj_type (wpAny_pure ⟨plainId_quiet PySem.F.plain_list_iadd _, codeAny_builtin PySem.F.entry_list_iadd ?_⟩))
  rw [Around.under_plainId PySem.F.plain_list_iadd _]
  have st1 := W.frame 0 s (s.heap.push { cls := .type "list", data := .seq ([] : List Value).toArray }) s.toks st0 (Nat.le_refl _) fun b _ o z => Heap.get?_push_of_some _ z
  have new1 : (s.heap.push { cls := .type "list", data := .seq ([] : List Value).toArray }).get? s.heap.objs.size = some { cls := .type "list", data := .seq ([] : List Value).toArray } := Heap.get?_push_size _ rfl
  have unlike : Builtin.List.listSameRef (.ref s.heap.objs.size) (.ref I) = false := by simp [Builtin.List.listSameRef, ni]
  change wpAny _ A.in1 (Builtin.List.listExtendWith (.ref s.heap.objs.size) (.ref I) (.ref s.heap.objs.size)) _ _ _
  unfold Builtin.List.listExtendWith
  refine wpAny_bind (wpAny_typeOf (ty 0 _ st1) ?_)
  rw [if_neg (by rw [unlike]; decide)]
  refine wpAny_bind (W.self 0 _ _ _ st1 (wpAny_bind (wpAny_holding ?_)))
  unfold Builtin.List.listLengthHint
  refine wpAny_bind (wpAny_specialOf (ty 0 _ st1) noLenKi ?_)
  change wpAny _ A.in1 (specialOf (Value.ref I) (Str.ofString "__length_hint__") >>= _) _ _ _
  refine wpAny_bind (wpAny_specialOf (ty 0 _ st1) hintKi ?_)
  generalize hid : ("dict_keyiterator.__length_hint__" : String) = word
  wp_delta
  rw [show splitId word = some ("dict_keyiterator", "__length_hint__") from by subst hid; decide +kernel]
  subst hid
  refine wpAny_bind (wpAny_isInstance (b := true) (ty 0 _ st1) (by rw [isSubtype_type]; kernel_rfl) (wpAny_pure ?_))
  rw [if_neg (by decide)]
  refine wpAny_pure ⟨plainId_quiet PySem.F.plain_extend_loop _, codeAny_extend_loopS W few _ nf _ n 0 _ _ _ rfl (Nat.zero_le _) st1 new1 (ItemsOf.nil P) fun s' acc' c' mv new' its => ?_⟩
  change wpAny _ A (load s.heap.objs.size >>= _) _ _ s'
  exact wpAny_bind (wpAny_load new' (wpAny_pure (k s' acc' (Moved.drop_new (o := { cls := .type "list", data := .seq ([] : List Value).toArray }) (tk := s.toks) mv (Nat.le_refl _)) its)))
end
section
variable {X : Cx}
theorem keyIs_text {y : Str} {v : Value} (h : keyIs (Sum.inr y : Key) v = true) : ∃ t, v = .str y t := by
  rcases keyIs_shape h with ⟨i, t, e, _⟩ | ⟨z, t, e, q⟩
  · cases e
  · cases e
    exact ⟨t, q⟩
/-- join over a dict whose keys are texts -/
theorem mt_joinK (hc : X.calm = true) : MtR X "str.join" (fun x xs H Q => ∃ a p, ∃ kvs : List (Key × V), ∃ ys : List Str, x = .str a ∧ xs = [.ref p] ∧ H p = some (.dK kvs) ∧ kvs.map (·.1) = ys.map Sum.inr ∧
    (ys.map (·.length)).sum + ys.length * a.length ≤ 16777216 ∧ kvs.length ≤ 16777216 ∧ Q (.str (Txt.join a ys)) H) := by
  intro pins s σ H x xs v us Q I rx rs h
  obtain ⟨a, p, kvs, ys, rfl, rfl, hp, hk, fit, few, q⟩ := h
  obtain ⟨t, rfl⟩ := rx
  cases rs with
  | cons r1 rs =>
  cases rs
  cases r1
  obtain ⟨_, notSys, vs, kv, isD⟩ := dk_of I.hok hp
  obtain ⟨ep, at0⟩ := isD.dictAt
  have ⟨ob, _, hob, hex, _⟩ := at0
  have len : vs.length = kvs.length := (KV.length kv).symm
  refine wpAny_call (codeAny_call_builtin PySem.F.slot_str_join.plain PySem.F.entry_str_join (PySem.F.slot_str_join.check _ _ _ _ _ _ _ _ (typeIs_str _ _ _) (PySem.F.args_str_join_2 _ _) ?_))
  rw [join_tree_other]
  refine wpAny_bind (wpAny_typeOf (T := "dict") ⟨ob, hob, hex.1⟩ ?_)
  change wpAny _ X.A.in1 ((pyIter (.ref p)).tryCatch _ >>= fun it => collect it >>= fun items => PySem.joinTail a items) _ _ s
  refine wpAny_bind (wpAny_tryCatch (wpAny_pyIter_dict notSys at0 ?_))
  have put : ∀ b u, s.heap.get? b = some u → (s.heap.push { cls := .type "dict_keyiterator", data := .fields #[.ref p, .int 0 0, .int vs.length 0, .int ep 0] }).get? b = some u := fun b u z => Heap.get?_push_of_some _ z
  have lt : p < s.heap.objs.size := Heap.lt_size hob
  refine wpAny_bind (collect_ki (I := s.heap.objs.size) (Walks.dictKeys (A := X.A.in1.in1) (knd := mixKind X.prog X.w) (I.ok.hd hc) s.heap.objs.size p (Nat.ne_of_lt lt) vs ep).toS (fun i s' st => st.1.typeIs) ⟨⟨_, Heap.get?_push_size _ rfl, rfl, rfl⟩, at0.keep put⟩ ?_ (by simp) (by rw [len]; exact Nat.le_trans few (by decide)) fun s' acc mv its => ?_)
  · intro b hb
    rw [Heap.size_push]
    have : b = s.heap.objs.size ∨ b = p := by simpa using hb
    rcases this with z | z
    · rw [z]; exact Nat.lt_succ_self _
    · rw [z]; exact Nat.lt_succ_of_lt lt
  have hys : ys.length = vs.length := by
    have := congrArg List.length hk
    rw [List.length_map, List.length_map] at this
    omega
  have each : ∀ (i : Nat) (u : Value), acc.toList[i]? = some u → ∃ y t, ys[i]? = some y ∧ u = .str y t := fun i u z => by
    obtain ⟨k, y, hk1, hk2⟩ := its.2 i u ((Array.getElem?_toList (xs := acc) (i := i)).symm.trans z)
    obtain ⟨z1, z2, z3⟩ := KV.at' kv hk1
    have e1 : (kvs.map (·.1))[i]? = some k := by rw [List.getElem?_map, z2]; rfl
    rw [hk, List.getElem?_map] at e1
    obtain ⟨b, e2, rfl⟩ := Option.map_eq_some_iff.mp e1
    obtain ⟨t, rfl⟩ := keyIs_text hk2
    exact ⟨b, t, e2, rfl⟩
  obtain ⟨l, hl⟩ := exists_strValues acc.toList fun u hu => by
    obtain ⟨j, hj, rfl⟩ := List.mem_iff_getElem.mp hu
    obtain ⟨y, t, _, e⟩ := each j _ (List.getElem?_eq_getElem hj)
    exact ⟨y, t, e⟩
  have hl2 : l.map (·.1) = ys := by
    have ll : l.length = ys.length := by
      have z := (congrArg List.length hl).trans ((Array.length_toList (xs := acc)).trans its.1)
      rw [hys, ← z]
      exact (List.length_map ..).symm
    refine List.ext_getElem (by rw [List.length_map]; exact ll) fun i h1 h2 => ?_
    have hi : i < l.length := by rwa [List.length_map] at h1
    have e0 : acc.toList[i]? = some (.str l[i].1 l[i].2) := by
      rw [← hl]
      show (l.map fun p => Value.str p.1 p.2)[i]? = _
      rw [List.getElem?_map, List.getElem?_eq_getElem hi]
      rfl
    obtain ⟨y, t', e1, e2⟩ := each i _ e0
    rw [List.getElem?_eq_getElem h2] at e1
    cases e1
    rw [List.getElem_map]
    injection e2
  have okj := joinOk_of fit
  unfold JoinOk at okj
  rw [Bool.not_eq_true', ← hl2] at okj
  rw [← hl]
  have g : Gives (joinTail a (strValues l)) (joinMade a l) := by
    have g0 := gives_joinTail a l okj
    cases l with
    | nil => exact g0
    | cons z r =>
      cases r with
      | nil => exact g0
      | cons _ _ => exact g0
  have fin : ∀ t' k, EP X pins σ Q (.str (Txt.join a (l.map (·.1))) t') { s' with toks := k } := fun t' k => by
    rw [hl2]
    have J : Inv X pins σ H { s with heap := s'.heap, toks := k } := I.kept fun b u z => mv.heap b u (fun hb => by
      have hb : b = s.heap.objs.size := by simpa using hb
      exact Nat.lt_irrefl _ (hb ▸ Heap.lt_size z)) (put b u z)
    have e : ({ s' with toks := k } : Shared) = { s with heap := s'.heap, toks := k } := by
      have h1 := mv.gens
      have h2 := mv.drawn
      have h3 := mv.os
      cases s'
      cases s
      simp_all
    rw [e]
    exact ⟨.str (Txt.join a ys), H, J, ⟨t', rfl⟩, q⟩
  exact g X.prog X.w X.A (wants (EP X pins σ Q) X.xe) s' (post_join l ⟨joinFit_length okj, fin⟩)
end
end Ab

namespace Ab
open PySem PySem.Spec PyProof.Rows L2
/-! ## text in text -/
inductive InSR : W → W → W → Prop
  | mk {x y : Str} : InSR (.d (.str x)) (.d (.str y)) (.d (.bool (!(Builtin.Str.occurrences y x 0 y.length 1).isEmpty)))
theorem oa_inS {X : Cx} : OpA X (compareOp .In) InSR := ⟨_, op_in_str, fun F H wx wy vx vy A B res QH s rx ry hr k => by
  cases hr
  rw [rep_d, dq_str] at rx ry
  exact ⟨_, _, rx.1, ry.1, k _ F H (New.pure (by rw [dq_bool]))⟩⟩
/-! ## join over texts, or over a dict whose keys are texts -/
theorem Dkv.keys {K : PySem.W.Frag} {F : Hp} : ∀ {ds : List (Key × PyData)} {us : List (Key × V)}, Dkv K F ds us → us.map (·.1) = ds.map (·.1)
  | [], us, r => by rw [show us = [] from r]; rfl
  | (k, d) :: ds, us, ⟨v, r', e, p, q⟩ => by rw [e, List.map_cons, List.map_cons, Dkv.keys q]
inductive JoinXR : W → List W → W → Prop
  | L {x : Str} {w : W} {ys : List Str} (h : DL w (ys.map PyData.str)) (l : (ys.map (·.length)).sum + ys.length * x.length ≤ 16777216) : JoinXR (.d (.str x)) [w] (.d (.str (Txt.join x ys)))
  | K {x : Str} {ds : List (Key × PyData)} {ys : List Str} (h : ds.map (·.1) = ys.map Sum.inr) (l : (ys.map (·.length)).sum + ys.length * x.length ≤ 16777216) (few : ys.length ≤ 16777216) : JoinXR (.d (.str x)) [WD ds] (.d (.str (Txt.join x ys)))
theorem rd_joinX {X : Cx} (hc : X.calm = true) : RdA X "str.join" JoinXR := ⟨fun x xs H Q => _ ∨ _, fun pins s σ H x xs v us Q I rx rs h => h.elim (mt_join pins s σ H x xs v us Q I rx rs) (mt_joinK hc pins s σ H x xs v us Q I rx rs), fun F H w ws v vs res QH s c hr k => by
  cases hr with
  | @L x w ys h l =>
    obtain ⟨⟨A, r⟩, c2⟩ := (show (∃ A, Rep X.K F H (.d (.str x)) v A) ∧ Cont X.K F H [w] vs from c)
    rw [rep_d, dq_str] at r
    obtain ⟨v2, A2, rfl, r2⟩ := cont1 c2
    obtain ⟨a, us, rfl, sq, dq⟩ := h.ok s r2
    rw [dqs_strs dq] at sq
    exact .inl ⟨x, a, ys, r.1, rfl, .inl sq, l, k _ F H (New.pure (by rw [dq_str]))⟩
  | @K x ds ys h l few =>
    obtain ⟨⟨A, r⟩, c2⟩ := (show (∃ A, Rep X.K F H (.d (.str x)) v A) ∧ Cont X.K F H [WD ds] vs from c)
    rw [rep_d, dq_str] at r
    obtain ⟨v2, A2, rfl, r2⟩ := cont1 c2
    rw [rep_dk] at r2
    obtain ⟨a, us, B, rfl, _, ha, rk⟩ := r2
    obtain ⟨dk, _⟩ := rk.toD
    have hk : us.map (·.1) = ys.map Sum.inr := dk.keys.trans h
    exact .inr ⟨x, a, us, ys, r.1, rfl, ha, hk, l, by rw [← List.length_map (f := (·.1)), hk, List.length_map]; exact few, k _ F H (New.pure (by rw [dq_str]))⟩⟩
/-! ## either of two readings -/
def tEither (t u : TSA) : TSA := fun D ε => t D ε ∨ u D ε
theorem as_either {X : Cx} {bp : List Nat} {st : Stmt} {t u : TSA} (h : AS X bp st t) (g : AS X bp st u) : AS X bp st (tEither t u) := by
  obtain ⟨a, pa, qa⟩ := h.ex
  obtain ⟨b, pb, qb⟩ := g.ex
  exact ⟨fun D σ H => a D σ H ∨ b D σ H, ⟨fun pins s σ H D I hw => hw.elim (fun z => pa.run pins s σ H D I z) fun z => pb.run pins s σ H D I z⟩,
    fun E F φ ε σ H τ D DH he S h f => h.elim (fun z => .inl (qa E F φ ε σ H τ D DH he S z f)) fun z => .inr (qb E F φ ε σ H τ D DH he S z f)⟩

/-! ## xs.insert(i, y) -/
inductive InsR : W → List W → W → W → Prop
  | mk {ds : List PyData} {i : Int} {d : PyData} (h : ds.length < sizeLine) (h0 : 0 ≤ i) (h1 : i < 2 ^ 63) : InsR (.lst (ds.map W.d)) [.d (.int i), .d d] (.lst ((ds.take i.toNat ++ [d] ++ ds.drop i.toNat).map W.d)) (.d .none)
def rInsert : V → List V → Hp → VK → Prop := fun x vs H Q => ∃ (l : Addr) (xs : List V) (i : Int) (y : V), x = .ref l ∧ vs = [.int i, y] ∧ H l = some (.lst xs) ∧ xs.length < sizeLine ∧ 0 ≤ i ∧ i < 2 ^ 63 ∧
    Q .non (upd H l (.lst (xs.take i.toNat ++ [y] ++ xs.drop i.toNat)))
theorem mu_insert {X : Cx} : MuA X "list.insert" InsR := by
  refine ⟨rInsert, mt_insert, fun F H w ws w' res v vs A B QH s rA rB nd hn hr k => ?_⟩
  cases hr with
  | @mk ds i d h h0 h1 =>
    obtain ⟨y, z, B1, B2, rfl, rfl, r1, r2⟩ := reps_two rB
    rw [rep_d, dq_int] at r1
    rw [rep_d] at r2
    refine one_list rA hn k fun a us e ha dq kk => ?_
    exact ⟨a, us, i, z, e, by rw [r1.1], ha, by rw [dq.len]; exact h, h0, h1, kk .non _ (((dq.take i.toNat).append (show Dqs X.K F [d] [z] by rw [dqs_cons]; exact ⟨z, [], rfl, r2.1, by rw [dqs_nil]⟩)).append (dq.drop i.toNat)) ⟨.none, rfl, by rw [dq_none]⟩⟩
/-! ## without a locked dict -/
def Less (F F' : Hp) : Prop := ∀ b u, F b = some u → (∀ od kvs, u ≠ .frz od (.dK kvs)) → F' b = some u
section
variable {K : PySem.W.Frag} {F F' H H' : Hp}
theorem Less.rd {a : Addr} {u : HO} (e : Less F F') (hu : ∀ od kvs, u ≠ .frz od (.dK kvs)) (hu2 : ∀ kvs, u ≠ .dK kvs) (h : Rd F a u) : Rd F' a u := by
  rcases h with h | ⟨o, h⟩
  · exact .inl (e _ _ h hu)
  · exact .inr ⟨o, e _ _ h fun od kvs z => by cases z; exact hu2 _ rfl⟩
theorem Less.sqL {a : Addr} {vs : List V} (e : Less F F') (h : SqL K F a vs) : SqL K F' a vs := by
  rcases h with h | h
  · exact .inl (e.rd (fun _ _ z => nomatch z) (fun _ z => nomatch z) h)
  · exact .inr h
theorem Less.sqT {a : Addr} {vs : List V} (e : Less F F') (h : SqT K F a vs) : SqT K F' a vs := by
  rcases h with h | h
  · exact .inl (e.rd (fun _ _ z => nomatch z) (fun _ z => nomatch z) h)
  · exact .inr h
mutual
theorem Dq.less (e : Less F F') : ∀ (x : PyData) (v : V), Dq K F x v → Dq K F' x v
  | .none, _, h => h
  | .bool _, _, h => h
  | .int _, _, h => h
  | .str _, _, h => h
  | .list ds, _, h => by
    simp only [Dq] at h ⊢
    obtain ⟨a, vs, r, s, q⟩ := h
    exact ⟨a, vs, r, e.sqL s, Dqs.less e ds vs q⟩
  | .tuple ds, _, h => by
    simp only [Dq] at h ⊢
    obtain ⟨a, vs, r, s, q⟩ := h
    exact ⟨a, vs, r, e.sqT s, Dqs.less e ds vs q⟩
  | .dict ds, _, h => by
    simp only [Dq] at h ⊢
    obtain ⟨a, us, r, s, q⟩ := h
    exact ⟨a, us, r, e _ _ s (fun _ _ z => nomatch z), Dqk.less e ds us q⟩
theorem Dqs.less (e : Less F F') : ∀ (ds : List PyData) (vs : List V), Dqs K F ds vs → Dqs K F' ds vs
  | [], _, h => h
  | d :: ds, _, h => by
    simp only [Dqs] at h ⊢
    obtain ⟨v, r, z, p, q⟩ := h
    exact ⟨v, r, z, Dq.less e d v p, Dqs.less e ds r q⟩
theorem Dqk.less (e : Less F F') : ∀ (ds : List (PyData × PyData)) (us : List (Key × V)), Dqk K F ds us → Dqk K F' ds us
  | [], _, h => h
  | (k, d) :: ds, _, h => by
    simp only [Dqk] at h ⊢
    obtain ⟨z, v, r, y, g, p, q⟩ := h
    exact ⟨z, v, r, y, g, Dq.less e d v p, Dqk.less e ds r q⟩
end
mutual
theorem Rep.less (e : Less F F') : ∀ (w : W) (v : V) (A : List Addr), (∀ a ∈ A, H' a = H a) → Rep K F H w v A → Rep K F' H' w v A
  | .d x, v, A, _, h => by
    simp only [Rep] at h ⊢
    exact ⟨Dq.less e x v h.1, h.2⟩
  | .v x, v, A, _, h => h
  | .lst ws, v, A, k, h => by
    simp only [Rep] at h ⊢
    obtain ⟨a, vs, B, r, rfl, s, q⟩ := h
    exact ⟨a, vs, B, r, rfl, (k a List.mem_cons_self).trans s, Reps.less e ws vs B (fun b hb => k b (List.mem_cons_of_mem _ hb)) q⟩
  | .dk ws, v, A, k, h => by
    simp only [Rep] at h ⊢
    obtain ⟨a, vs, B, r, rfl, s, q⟩ := h
    exact ⟨a, vs, B, r, rfl, (k a List.mem_cons_self).trans s, Repk.less e ws vs B (fun b hb => k b (List.mem_cons_of_mem _ hb)) q⟩
  | .ins C ws, v, A, k, h => by
    simp only [Rep] at h ⊢
    obtain ⟨a, dx, vs, B, r, rfl, s, q⟩ := h
    exact ⟨a, dx, vs, B, r, rfl, (k a List.mem_cons_self).trans s, Repf.less e ws vs B (fun b hb => k b (List.mem_cons_of_mem _ hb)) q⟩
  | .tup ws, v, A, k, h => by
    simp only [Rep] at h ⊢
    obtain ⟨a, vs, B, r, rfl, s, q⟩ := h
    exact ⟨a, vs, B, r, rfl, (k a List.mem_cons_self).trans s, Reps.less e ws vs B (fun b hb => k b (List.mem_cons_of_mem _ hb)) q⟩
theorem Reps.less (e : Less F F') : ∀ (ws : List W) (vs : List V) (A : List Addr), (∀ a ∈ A, H' a = H a) → Reps K F H ws vs A → Reps K F' H' ws vs A
  | [], _, _, _, h => h
  | w :: ws, vs, A, k, h => by
    simp only [Reps] at h ⊢
    obtain ⟨v, r, B, C, z, rfl, p, q⟩ := h
    exact ⟨v, r, B, C, z, rfl, Rep.less e w v B (fun a ha => k a (List.mem_append_left _ ha)) p, Reps.less e ws r C (fun a ha => k a (List.mem_append_right _ ha)) q⟩
theorem Repk.less (e : Less F F') : ∀ (ws : List (Key × W)) (vs : List (Key × V)) (A : List Addr), (∀ a ∈ A, H' a = H a) → Repk K F H ws vs A → Repk K F' H' ws vs A
  | [], _, _, _, h => h
  | (_, w) :: ws, vs, A, k, h => by
    simp only [Repk] at h ⊢
    obtain ⟨v, r, B, C, z, rfl, p, q⟩ := h
    exact ⟨v, r, B, C, z, rfl, Rep.less e w v B (fun a ha => k a (List.mem_append_left _ ha)) p, Repk.less e ws r C (fun a ha => k a (List.mem_append_right _ ha)) q⟩
theorem Repf.less (e : Less F F') : ∀ (ws : List (Str × W)) (vs : List (Str × V)) (A : List Addr), (∀ a ∈ A, H' a = H a) → Repf K F H ws vs A → Repf K F' H' ws vs A
  | [], _, _, _, h => h
  | (_, w) :: ws, vs, A, k, h => by
    simp only [Repf] at h ⊢
    obtain ⟨v, r, B, C, z, rfl, p, q⟩ := h
    exact ⟨v, r, B, C, z, rfl, Rep.less e w v B (fun a ha => k a (List.mem_append_left _ ha)) p, Repf.less e ws r C (fun a ha => k a (List.mem_append_right _ ha)) q⟩
end
end

theorem Dkv.mono {K : PySem.W.Frag} {F F' : Hp} (e : Same F F') : ∀ {ds : List (Key × PyData)} {us : List (Key × V)}, Dkv K F ds us → Dkv K F' ds us
  | [], us, r => r
  | (k, d) :: ds, us, ⟨v, r', h, p, q⟩ => ⟨v, r', h, Dq.mono e d v p, Dkv.mono e q⟩
theorem Dkv.key {K : PySem.W.Frag} {F : Hp} {k : Key} {v : V} : ∀ {ds : List (Key × PyData)} {us : List (Key × V)} {j : Nat}, Dkv K F ds us → us[j]? = some (k, v) → ∃ d, ds[j]? = some (k, d)
  | [], us, j, r, e => by rw [show us = [] from r] at e; simp at e
  | (z, d) :: ds, us, 0, ⟨u, r', h, p, q⟩, e => by
    rw [h] at e
    simp at e
    exact ⟨d, by simp [e.1]⟩
  | (z, d) :: ds, us, j + 1, ⟨u, r', h, p, q⟩, e => by
    rw [h] at e
    simp at e
    obtain ⟨d, hd⟩ := Dkv.key q e
    exact ⟨d, by simpa using hd⟩
theorem dq_kV {K : PySem.W.Frag} {F : Hp} {k : Key} : Dq K F (kD k) (kV k) := by
  cases k with
  | inl i => show Dq K F (.int i) (.int i); rw [dq_int]
  | inr x => show Dq K F (.str x) (.str x); rw [dq_str]
/-! ## an own dict is locked, and is free again -/
section
variable {K : PySem.W.Frag} {E : Ent} {F H : Hp} {φ : Addr → Option Nat} {ε : Env} {σ : L2.St} {τ : List (W × V)}
/-- the entry of what runs while the dict is locked -/
def Ent.lk (E : Ent) (F : Hp) : Ent := { E with F0 := F }
theorem Sta.lock {i : Nat} {a : Addr} {kvs : List (Key × V)} {od : Obj} (S : Sta K E F φ ε σ H τ) (hi : i < ε.length) (ha : H a = some (.dK kvs)) (hφ : φ a = some i) :
    Sta K (E.lk (upd F a (.frz od (.dK kvs)))) (upd F a (.frz od (.dK kvs))) (fun b => if b = a then none else φ b) (ε.set i none) σ (upd H a (.frz od (.dK kvs))) τ := by
  obtain ⟨fa, _, hm⟩ := S.own a i hφ
  have ex : Same F (upd F a (.frz od (.dK kvs))) := fun b o e => by rw [upd_ne (ne_of_none e fa)]; exact e
  refine ⟨Same.refl _, fun b h => .inl h, fun b o e => ?_, fun b o e nm => ?_, fun b e => ?_, fun b j e => ?_, by rw [List.length_set]; exact S.len, S.fix, fun j w e => ?_, fun j w v e => ?_⟩
  · by_cases z : b = a
    · rw [z, upd_same] at e ⊢; exact e
    · rw [upd_ne z] at e ⊢; exact S.sub b o e
  · have z : b ≠ a := fun z => by
      subst z
      rcases hm with q | q
      · exact nm q
      · rw [show E.H0 b = some o from e] at q; cases q
    rw [upd_ne z]
    exact S.old b o e nm
  · have z : b ≠ a := fun z => by rw [z, upd_same] at e; cases e
    rw [upd_ne z] at e
    exact S.pre b e
  · have e : (if b = a then none else φ b) = some j := e
    by_cases z : b = a
    · rw [if_pos z] at e; cases e
    · rw [if_neg z] at e
      obtain ⟨h1, h2, h3⟩ := S.own b j e
      exact ⟨by rw [upd_ne z]; exact h1, by rw [upd_ne z]; exact h2, h3⟩
  · rcases set_get e with ⟨rfl, e2⟩ | ⟨ne, e⟩
    · cases e2
    · obtain ⟨v, A, h1, h2, h3, h4⟩ := S.slot j w e
      have na : ∀ b ∈ A, b ≠ a := fun b hb z => by
        have q := h4 b hb
        rw [z, hφ] at q
        exact ne (Option.some.inj q).symm
      exact ⟨v, A, h1, Rep.keep ex w v A (fun b hb => upd_ne (na b hb)) h2, h3, fun b hb => by
        show (if b = a then none else φ b) = some j
        rw [if_neg (na b hb)]
        exact h4 b hb⟩
  · obtain ⟨A, h2, h3, h4⟩ := S.tmp j w v e
    have na : ∀ b ∈ A, b ≠ a := fun b hb z => by
      have q := h4 b hb
      rw [z, hφ] at q
      have q := Option.some.inj q
      omega
    exact ⟨A, Rep.keep ex w v A (fun b hb => upd_ne (na b hb)) h2, h3, fun b hb => by
      show (if b = a then none else φ b) = _
      rw [if_neg (na b hb), List.length_set]
      exact h4 b hb⟩
/-- without the one row -/
def wo (F : Hp) (a : Addr) : Hp := fun b => if b = a then none else F b
theorem Sta.unlock {i : Nat} {a : Addr} {kvs : List (Key × V)} {ds : List (Key × PyData)} {od : Obj} {F2 H2 : Hp} {φ2 : Addr → Option Nat} {ε2 : Env} {σ2 : L2.St} {τ2 : List (W × V)} (S : Sta K E F φ ε σ H τ) (hφ : φ a = some i)
    (hv : σ[i]? = some (some (.ref a))) (hd : Dkv K F ds kvs) (hb : i ∈ E.bp) (S2 : Sta K (E.lk (upd F a (.frz od (.dK kvs)))) F2 φ2 ε2 σ2 H2 τ2) (hi : i < ε2.length) :
    H2 a = some (.frz od (.dK kvs)) ∧ Sta K E (wo F2 a) (fun b => if b = a then some i else φ2 b) (ε2.set i (some (WD ds))) σ2 (upd H2 a (.dK kvs)) τ2 := by
  obtain ⟨fa, _, hm⟩ := S.own a i hφ
  have ex : Same F (upd F a (.frz od (.dK kvs))) := fun b o e => by rw [upd_ne (ne_of_none e fa)]; exact e
  have f2 : F2 a = some (.frz od (.dK kvs)) := S2.ext a _ upd_same
  have h2a : H2 a = some (.frz od (.dK kvs)) := S2.sub a _ f2
  have wo_ne : ∀ {b}, b ≠ a → wo F2 a b = F2 b := fun z => if_neg z
  have wo_a : wo F2 a a = none := if_pos rfl
  have sF : Same F (wo F2 a) := fun b o e => by
    have z := ne_of_none e fa
    rw [wo_ne z]
    exact S2.ext b o (ex b o e)
  have less : Less F2 (wo F2 a) := fun b u e n => by
    rw [wo_ne (fun z => by rw [z, f2] at e; exact n _ _ (Option.some.inj e).symm)]
    exact e
  have naO : ∀ {A : List Addr} {n : Nat}, (∀ b ∈ A, φ2 b = some n) → ∀ b ∈ A, b ≠ a := fun h b hb z => by
    have q := (S2.own b _ (h b hb)).1
    rw [z, f2] at q
    cases q
  refine ⟨h2a, fun b o e => sF b o (S.ext b o e), fun b h => ?_, fun b o e => ?_, fun b o e nm => ?_, fun b e => ?_, fun b j e => ?_, by rw [List.length_set]; exact S2.len, fun j hj => S2.fix j hj, fun j w e => ?_, fun j w v e => ?_⟩
  · have z : b ≠ a := fun z => by rw [z, wo_a] at h; exact h rfl
    rw [wo_ne z] at h
    rcases S2.fnew b h with q | q | q
    · have q : upd F a (.frz od (.dK kvs)) b ≠ none := q
      rw [upd_ne z] at q
      exact S.fnew b q
    · exact .inr (.inl q)
    · exact .inr (.inr q)
  · have z : b ≠ a := fun z => by rw [z, wo_a] at e; cases e
    rw [wo_ne z] at e
    rw [upd_ne z]
    exact S2.sub b o e
  · have z : b ≠ a := fun z => by
      subst z
      rcases hm with q | q
      · exact nm q
      · rw [e] at q; cases q
    rw [upd_ne z]
    exact S2.old b o e nm
  · have z : b ≠ a := fun z => by rw [z, upd_same] at e; cases e
    rw [upd_ne z] at e
    exact S2.pre b e
  · have e : (if b = a then some i else φ2 b) = some j := e
    by_cases z : b = a
    · subst z
      exact ⟨wo_a, by rw [upd_same]; simp, hm⟩
    · rw [if_neg z] at e
      obtain ⟨h1, h2, h3⟩ := S2.own b j e
      exact ⟨by rw [wo_ne z]; exact h1, by rw [upd_ne z]; exact h2, h3⟩
  · rcases set_get e with ⟨rfl, e2⟩ | ⟨ne, e⟩
    · cases e2
      refine ⟨.ref a, [a], ?_, ?_, by simp, fun b hb => ?_⟩
      · rw [S2.fix j hb]
        show E.st0[j]? = _
        rw [← S.fix j hb]
        exact hv
      · rw [rep_dk]
        exact ⟨a, kvs, [], rfl, rfl, upd_same, (hd.mono sF).rep⟩
      · have z : b = a := by simpa using hb
        exact if_pos z
    · obtain ⟨v, A, h1, h2, h3, h4⟩ := S2.slot j w e
      have na := naO h4
      exact ⟨v, A, h1, Rep.less less w v A (fun b hb => upd_ne (na b hb)) h2, h3, fun b hb => by
        show (if b = a then some i else φ2 b) = some j
        rw [if_neg (na b hb)]
        exact h4 b hb⟩
  · obtain ⟨A, h2, h3, h4⟩ := S2.tmp j w v e
    have na := naO h4
    exact ⟨A, Rep.less less w v A (fun b hb => upd_ne (na b hb)) h2, h3, fun b hb => by
      show (if b = a then some i else φ2 b) = _
      rw [if_neg (na b hb), List.length_set]
      exact h4 b hb⟩
end

/-! ## for k in d -/
def tForK (i : Nat) (g : TGA) (tb : TSA) : TSA := fun D ε => ∃ ds, ε[i]? = some (some (WD ds)) ∧ ∃ Pv : Nat → Env → Prop, Pv 0 (ε.set i none) ∧
  (∀ j k d ε', ds[j]? = some (k, d) → Pv j ε' → g (.d (kD k)) ε' fun ε2 => tb { nx := Pv (j + 1), ct := Pv (j + 1), bk := fun ε => i < ε.length ∧ D.nx (ε.set i (some (WD ds))), rt := fun r ε => i < ε.length ∧ D.rt r (ε.set i (some (WD ds))) } ε2) ∧
  (∀ ε', Pv ds.length ε' → i < ε'.length ∧ D.nx (ε'.set i (some (WD ds))))
section
variable {X : Cx} {bp ts : List Nat} {tg : Expr} {body : List Stmt} {g : TGA} {tb : TSA} {x : Str} {pos npos : Pos}
theorem as_forK (i : Nat) (hg : AG X bp ts tg g) (hb : ASs X bp body tb) (hN : X.N[i]? = some x := by rfl) (hib : i ∈ bp := by decide) (hv : Vis X.env.scope x := by first | exact Or.inl rfl | exact Or.inr (Or.inl rfl) | exact Or.inr (Or.inr rfl)) (hc : X.calm = true := by rfl) (hp : PassesOwn (model X.prog X.w) X.A X.env X.xe := by exact PassesOwn.never)
    (hd : (x == ("__debug__" : Str)) = false := by decide) (hcd : (x == ("__classdict__" : Str)) = false := by decide)
    (hs : ∀ y, foldedSetIterable (.Name x npos) X.env y = pure y := by intro _; rfl) : AS X bp (.For tg (.Name x npos) body [] pos) (tForK i g tb) := by
  obtain ⟨_, pg, qg⟩ := hg.ex
  obtain ⟨_, pb, qb⟩ := hb.ex
  refine ⟨_, ps_lock (ps_for hp hc (pi_keys (pe_var (pos := npos) hN hv hd hcd)) pg pb hs), fun E F φ ε σ H τ D DH he S h f => ?_⟩
  subst he
  obtain ⟨ds, es, Pv, p0, turn, fin⟩ := h
  have hi : i < ε.length := (List.getElem?_eq_some_iff.mp es).1
  obtain ⟨v, A, hσ, r, nd, hA⟩ := S.slot i _ es
  rw [rep_dk] at r
  obtain ⟨a, kvs, B, rfl, rfl, ha, rk⟩ := r
  obtain ⟨dk, rfl⟩ := rk.toD
  have hφ : φ a = some i := hA a List.mem_cons_self
  refine ⟨a, .dK kvs, ha, True.intro, fun od => ?_⟩
  have S1 := S.lock (od := od) hi ha hφ
  refine ⟨.ref a, hσ, a, od, rfl, .inl ⟨kvs, upd_same, ?_⟩⟩
  have hl : kvs.length = ds.length := dk.len
  refine ⟨fun j m σ' H' => m = ds.length - j ∧ j ≤ ds.length ∧ ∃ F' φ' ε', Sta X.K (E.lk (upd F a (.frz od (.dK kvs)))) F' φ' ε' σ' H' τ ∧ Pv j ε', ⟨ds.length, by simp, Nat.zero_le _, _, _, _, S1, p0⟩, ?_⟩
  rintro j m σ2 H2 ⟨rfl, hj, F2, φ2, ε2, S2, p2⟩
  have h2 : H2 a = some (.frz od (.dK kvs)) := S2.sub a _ (S2.ext a _ upd_same)
  by_cases hlt : j < ds.length
  · refine .inr ⟨⟨h2, by rw [hl]; exact hlt⟩, fun σ' H' => ∃ F' φ' ε', Sta X.K (E.lk (upd F a (.frz od (.dK kvs)))) F' φ' ε' σ' H' τ ∧ Pv (j + 1) ε', fun σ' H' ⟨F3, φ3, ε3, S3, p3⟩ => ⟨ds.length - (j + 1), by omega, rfl, hlt, F3, φ3, ε3, S3, p3⟩, fun y H3 yl => ?_⟩
    obtain ⟨rfl, k, v, ek, rfl⟩ := yl
    obtain ⟨d, ed⟩ := dk.key ek
    obtain ⟨φ3, S3⟩ := S2.pushD (x := kD k) (v := kV k) dq_kV
    refine qg (E.lk (upd F a (.frz od (.dK kvs)))) F2 φ3 ε2 σ2 H3 _ _ _ _ _ rfl S3 (turn j k d ε2 ed p2) fun F4 φ4 ε4 σ4 H4 S4 _ _ _ h4 => ?_
    refine qb (E.lk (upd F a (.frz od (.dK kvs)))) F4 φ4 ε4 σ4 H4 _ _ _ rfl S4 h4 ⟨fun F φ ε σ H S h => ⟨F, φ, ε, S, h⟩, fun rv' v' F' φ' ε' σ' H' S' ok' h => ?_, fun F' φ' ε' σ' H' S' h => ?_, fun F φ ε σ H S h => ⟨F, φ, ε, S, h⟩⟩
    · obtain ⟨q, S5⟩ := S.unlock hφ hσ dk hib S' h.1
      exact ⟨q, f.rt _ _ _ _ _ _ _ S5 ok' h.2⟩
    · obtain ⟨q, S5⟩ := S.unlock hφ hσ dk hib S' h.1
      exact ⟨q, f.nx _ _ _ _ _ S5 h.2⟩
  · have e : j = ds.length := by omega
    subst e
    obtain ⟨q, S5⟩ := S.unlock hφ hσ dk hib S2 (fin ε2 p2).1
    exact .inl ⟨⟨h2, by rw [hl]; exact Nat.le_refl _⟩, q, f.nx _ _ _ _ _ S5 (fin ε2 p2).2⟩
end
end Ab

namespace Ab
open PySem PySem.Spec PyProof.Rows L2
/-! # steps through a reading: each rule has one goal behind it -/
theorem lineBig : 16777216 ≤ sizeLine := by decide
/-- a choice by a truth -/
def IfP (c : Bool) (A B : Prop) : Prop := if c = true then A else B
theorem g_ifT {c : Bool} {A B : Prop} (e : c = true) (h : A) : IfP c A B := by unfold IfP; rw [if_pos e]; exact h
theorem g_ifF {c : Bool} {A B : Prop} (e : c = false) (h : B) : IfP c A B := by unfold IfP; rw [e]; exact h
theorem g_ifN {c : Bool} {A B : Prop} (h : IfP c B A) : IfP (!c) A B := by cases c <;> exact h
theorem g_ifInT {c c' : Bool} {A B : Prop} (h : IfP c A B) : IfP (if true = true then c else c') A B := h
theorem g_ifInF {c c' : Bool} {A B : Prop} (h : IfP c' A B) : IfP (if false = true then c else c') A B := h
theorem g_ifD {p : Prop} [Decidable p] {A B : Prop} (h : p → A) (k : ¬p → B) : IfP (decide p) A B := by
  unfold IfP
  by_cases e : p
  · rw [if_pos (by simpa using e)]; exact h e
  · rw [if_neg (by simpa using e)]; exact k e
theorem g_ifB {c : Bool} {A B : Prop} (h : c = true → A) (k : c = false → B) : IfP c A B := by cases c <;> first | exact h rfl | exact k rfl
theorem g_ifDT {p : Prop} [Decidable p] {A B : Prop} (e : p) (h : A) : IfP (decide p) A B := g_ifT (by simpa using e) h
theorem g_ifDF {p : Prop} [Decidable p] {A B : Prop} (e : ¬p) (h : B) : IfP (decide p) A B := g_ifF (by simpa using e) h
theorem g_ifC {c c' : Bool} {A B : Prop} (e : c = c') (h : IfP c' A B) : IfP c A B := e ▸ h

section
variable {ta tb tc te to ti tf : TEA} {t u : TTA} {ts tu : TAA} {R R' : W → W → W → Prop} {ε ε1 ε2 ε3 ε4 : Env} {Q : EV → Env → Prop} {P : Bool → Env → Prop} {L : List EV → Env → Prop} {i : Nat} {w wx wy r : W} {x y : EV} {xs : List EV}
theorem g_varD {d : PyData} (h : ε[i]? = some (some (.d d))) (k : Q (.v (.d d)) ε) : tVar i ε Q := ⟨_, h, k⟩
theorem g_varV {d : V} (h : ε[i]? = some (some (.v d))) (k : Q (.v (.v d)) ε) : tVar i ε Q := ⟨_, h, k⟩
theorem g_varL {ws : List W} (h : ε[i]? = some (some (.lst ws))) (k : Q (.sl i) ε) : tVar i ε Q := ⟨_, h, k⟩
theorem g_varK {ws : List (Key × W)} (h : ε[i]? = some (some (.dk ws))) (k : Q (.sl i) ε) : tVar i ε Q := ⟨_, h, k⟩
theorem g_varI {C : Addr} {fs : List (Str × W)} (h : ε[i]? = some (some (.ins C fs))) (k : Q (.sl i) ε) : tVar i ε Q := ⟨_, h, k⟩
theorem g_varT {ws : List W} (h : ε[i]? = some (some (.tup ws))) (k : Q (.sl i) ε) : tVar i ε Q := ⟨_, h, k⟩
theorem g_K (k : Q (.v w) ε) : tK w ε Q := k
def BinE (R : W → W → W → Prop) (x y : EV) (ε : Env) (Q : EV → Env → Prop) : Prop := ∃ wx wy r ε3 ε4, cnt ε x = some wx ∧ cnt ε y = some wy ∧ bck y ε = some ε3 ∧ bck x ε3 = some ε4 ∧ R wx wy r ∧ Q (.v r) ε4
theorem g_bin (h : ta ε fun x ε1 => tb ε1 fun y ε2 => BinE R x y ε2 Q) : tBin R ta tb ε Q := h
theorem g_binV (hr : R wx wy r) (k : Q (.v r) ε) : BinE R (.v wx) (.v wy) ε Q := ⟨_, _, _, _, _, rfl, rfl, rfl, rfl, hr, k⟩
theorem g_binE (hx : cnt ε x = some wx) (hy : cnt ε y = some wy) (by' : bck y ε = some ε3) (bx : bck x ε3 = some ε4) (hr : R wx wy r) (k : Q (.v r) ε4) : BinE R x y ε Q := ⟨_, _, _, _, _, hx, hy, by', bx, hr, k⟩
theorem g_binPow {a b : Int} {n : Nat} (h : CPowW a b) (e : b.toNat = n) (k : Q (.v (.d (.int (a ^ n)))) ε) : BinE PowR (.v (.d (.int a))) (.v (.d (.int b))) ε Q := ⟨_, _, _, _, _, rfl, rfl, rfl, rfl, .mk h, e ▸ k⟩
def BlE (x : EV) (ε : Env) (P : Bool → Env → Prop) : Prop := ∃ b, x = .v (.d (.bool b)) ∧ P b ε
theorem g_bl (h : te ε fun x ε1 => BlE x ε1 P) : tBl te ε P := h
theorem g_blE {b : Bool} (k : P b ε) : BlE (.v (.d (.bool b))) ε P := ⟨b, rfl, k⟩
def TruE (x : EV) (ε : Env) (P : Bool → Env → Prop) : Prop := ∃ w b ε2, cnt ε x = some w ∧ bck x ε = some ε2 ∧ TruW w b ∧ P b ε2
theorem g_tru (h : te ε fun x ε1 => TruE x ε1 P) : tTru te ε P := h
theorem g_truE {b : Bool} (h1 : cnt ε x = some w) (h2 : bck x ε = some ε2) (h3 : TruW w b) (k : P b ε2) : TruE x ε P := ⟨_, _, _, h1, h2, h3, k⟩
theorem g_and (h : t ε fun c ε1 => IfP c (u ε1 P) (P false ε1)) : tAnd t u ε P := h
theorem g_or (h : t ε fun c ε1 => IfP c (P true ε1) (u ε1 P)) : tOr t u ε P := h
theorem g_not (h : t ε fun c ε1 => P (!c) ε1) : tNot t ε P := h
theorem g_if (h : t ε fun c ε1 => IfP c (ta ε1 Q) (tb ε1 Q)) : tIf t ta tb ε Q := h
def BoE (x : EV) (k : Bool → Prop) : Prop := ∃ c, x = .v (.d (.bool c)) ∧ k c
theorem g_boE {c : Bool} {k : Bool → Prop} (h : k c) : BoE (.v (.d (.bool c))) k := ⟨c, rfl, h⟩
theorem g_andV (h : ta ε fun x ε1 => BoE x fun c => IfP c (tb ε1 Q) (Q (.v (.d (.bool false))) ε1)) : tAndV ta tb ε Q := h
theorem g_orV (h : ta ε fun x ε1 => BoE x fun c => IfP c (Q (.v (.d (.bool true))) ε1) (tb ε1 Q)) : tOrV ta tb ε Q := h
theorem g_notV (h : ta ε fun x ε1 => BoE x fun c => Q (.v (.d (.bool (!c)))) ε1) : tNotV ta ε Q := h
theorem g_nil (k : L [] ε) : tNil ε L := k
theorem g_cons (h : te ε fun x ε1 => ts ε1 fun xs ε2 => L (x :: xs) ε2) : tCons te ts ε L := h
def CBE (R : List W → W → Prop) (xs : List EV) (ε : Env) (Q : EV → Env → Prop) : Prop := ∃ ws r ε2, cnts ε xs = some ws ∧ bcks xs ε = some ε2 ∧ R ws r ∧ Q (.v r) ε2
theorem g_cb {R : List W → W → Prop} (h : ts ε fun xs ε1 => CBE R xs ε1 Q) : tCB R ts ε Q := h
theorem g_cbE {R : List W → W → Prop} {ws : List W} (h1 : cnts ε xs = some ws) (h2 : bcks xs ε = some ε2) (hr : R ws r) (k : Q (.v r) ε2) : CBE R xs ε Q := ⟨_, _, _, h1, h2, hr, k⟩
def MutB (T : String) (R : W → List W → W → W → Prop) (x : EV) (ts : TAA) (ε : Env) (Q : EV → Env → Prop) : Prop := ∃ w0, cnt ε x = some w0 ∧ tyW w0 T ∧ ts ε fun xs ε2 => ∃ w ws w' res ε3, cnt ε2 x = some w ∧ xs = ws.map EV.v ∧ R w ws w' res ∧ put x w' ε2 = some ε3 ∧ Q (.v res) ε3
def MutE (R : W → List W → W → W → Prop) (x : EV) (xs : List EV) (ε : Env) (Q : EV → Env → Prop) : Prop := ∃ w ws w' res ε3, cnt ε x = some w ∧ xs = ws.map EV.v ∧ R w ws w' res ∧ put x w' ε = some ε3 ∧ Q (.v res) ε3
theorem g_mut {T : String} {R : W → List W → W → W → Prop} (h : to ε fun x ε1 => MutB T R x ts ε1 Q) : tMut T R to ts ε Q := h
theorem g_mutB {T : String} {R : W → List W → W → W → Prop} {w0 : W} (h1 : cnt ε x = some w0) (h2 : tyW w0 T) (k : ts ε fun xs ε2 => MutE R x xs ε2 Q) : MutB T R x ts ε Q := ⟨_, h1, h2, k⟩
theorem g_mutE0 {R : W → List W → W → W → Prop} {w' res : W} (h1 : cnt ε x = some w) (h3 : R w [] w' res) (h4 : put x w' ε = some ε3) (k : Q (.v res) ε3) : MutE R x [] ε Q := ⟨_, [], _, _, _, h1, rfl, h3, h4, k⟩
theorem g_mutE1 {R : W → List W → W → W → Prop} {w' res w1 : W} (h1 : cnt ε x = some w) (h3 : R w [w1] w' res) (h4 : put x w' ε = some ε3) (k : Q (.v res) ε3) : MutE R x [.v w1] ε Q := ⟨_, [w1], _, _, _, h1, rfl, h3, h4, k⟩
theorem g_mutE2 {R : W → List W → W → W → Prop} {w' res w1 w2 : W} (h1 : cnt ε x = some w) (h3 : R w [w1, w2] w' res) (h4 : put x w' ε = some ε3) (k : Q (.v res) ε3) : MutE R x [.v w1, .v w2] ε Q := ⟨_, [w1, w2], _, _, _, h1, rfl, h3, h4, k⟩
def OwnE (x : EV) (ε : Env) (Q : EV → Env → Prop) : Prop := ∃ w ε2, Tak x ε w ε2 ∧ Q (.v w) ε2
theorem g_own (h : te ε fun x ε1 => OwnE x ε1 Q) : tOwn te ε Q := h
theorem g_ownV (k : Q (.v w) ε) : OwnE (.v w) ε Q := ⟨_, _, .v _ _, k⟩
theorem g_ownE (h : Tak x ε w ε2) (k : Q (.v w) ε2) : OwnE x ε Q := ⟨_, _, h, k⟩
def FrzE (x : EV) (ε : Env) (Q : EV → Env → Prop) : Prop := ∃ w ε2 d, Tak x ε w ε2 ∧ Rfy w d ∧ Q (.v (.d d)) ε2
theorem g_frz (h : te ε fun x ε1 => FrzE x ε1 Q) : tFrz te ε Q := h
theorem g_frzD {d : PyData} (k : Q (.v (.d d)) ε) : FrzE (.v (.d d)) ε Q := ⟨_, _, _, .v _ _, .d _, k⟩
theorem g_frzV {d : PyData} (h : Rfy w d) (k : Q (.v (.d d)) ε) : FrzE (.v w) ε Q := ⟨_, _, _, .v _ _, h, k⟩
/-- a slot that goes on to hold the datum -/
theorem g_frzS {d : PyData} (h0 : ε[i]? = some (some w)) (h : Rfy w d) (k : Q (.v (.d d)) (ε.set i (some (.d d)))) : FrzE (.sl i) ε Q := ⟨_, _, _, .sl h0 h, .d _, k⟩
theorem g_frzE {d : PyData} (h1 : Tak x ε w ε2) (h2 : Rfy w d) (k : Q (.v (.d d)) ε2) : FrzE x ε Q := ⟨_, _, _, h1, h2, k⟩
def LendE (x : EV) (ε : Env) (Q : EV → Env → Prop) : Prop := match x with
  | .sl i => ∃ w, ε[i]? = some (some w) ∧ ∀ u, Q (.fl i [] u w) (ε.set i (some (.v u)))
  | .v w => Q (.v w) ε
  | .fl i p u w => Q (.fl i p u w) ε
theorem g_lend (h : te ε fun x ε1 => LendE x ε1 Q) : tLend te ε Q := h
theorem g_lendV (k : Q (.v w) ε) : LendE (.v w) ε Q := k
theorem g_lendF {p : List Str} {u : V} (k : Q (.fl i p u w) ε) : LendE (.fl i p u w) ε Q := k
theorem g_lendS (h : ε[i]? = some (some w)) (k : ∀ u, Q (.fl i [] u w) (ε.set i (some (.v u)))) : LendE (.sl i) ε Q := ⟨_, h, k⟩
def PutE (xs : List EV) (ws ws' : List W) (ε : Env) (r : W) (Q : EV → Env → Prop) : Prop := ws'.length = ws.length ∧ ∃ ε2, puts xs ws' ε = some ε2 ∧ Q (.v r) ε2
theorem g_putE {ws ws' : List W} (h : ws'.length = ws.length) (h2 : puts xs ws' ε = some ε2) (k : Q (.v r) ε2) : PutE xs ws ws' ε r Q := ⟨h, _, h2, k⟩
def CallE (sp : SpW) (xs : List EV) (ε : Env) (Q : EV → Env → Prop) : Prop := ∃ ws, argWs xs = some ws ∧ sp ws fun r ws' => ws'.length = ws.length ∧ ∃ ε2, puts xs ws' ε = some ε2 ∧ Q (.v r) ε2
theorem g_call {sp : SpW} (h : ts ε fun xs ε1 => CallE sp xs ε1 Q) : tCall sp ts ε Q := h
theorem g_callE {sp : SpW} {ws : List W} (h : argWs xs = some ws) (k : sp ws fun r ws' => PutE xs ws ws' ε r Q) : CallE sp xs ε Q := ⟨_, h, k⟩
def LateE (xs : List EV) (ε : Env) (L : List EV → Env → Prop) : Prop := lateW xs ε L
theorem g_late (h : ts ε fun xs ε1 => LateE xs ε1 L) : tLate ts ε L := h
theorem g_lateN (k : L [] ε) : LateE [] ε L := k
theorem g_lateS (h : ε[i]? = some (some w)) (k : ∀ u, LateE xs (ε.set i (some (.v u))) fun ys ε' => L (.fl i [] u w :: ys) ε') : LateE (.sl i :: xs) ε L := ⟨_, h, k⟩
theorem g_lateV (k : LateE xs ε fun ys ε' => L (.v w :: ys) ε') : LateE (.v w :: xs) ε L := k
theorem g_lateF {p : List Str} {u : V} (k : LateE xs ε fun ys ε' => L (.fl i p u w :: ys) ε') : LateE (.fl i p u w :: xs) ε L := k
def LstE (xs : List EV) (ε : Env) (Q : EV → Env → Prop) : Prop := ∃ ws : List W, xs = ws.map EV.v ∧ ws.length ≤ sizeLine ∧ Q (.v (.lst ws)) ε
theorem g_lst (h : ts ε fun xs ε1 => LstE xs ε1 Q) : tLst ts ε Q := h
/-- the contents of things that stand by themselves -/
def valsE : List EV → Option (List W)
  | [] => some []
  | .v w :: xs => match valsE xs with
    | some ws => some (w :: ws)
    | none => none
  | _ :: _ => none
theorem valsE_ok : ∀ {xs : List EV} {ws : List W}, valsE xs = some ws → xs = ws.map EV.v
  | [], ws, h => by cases h; rfl
  | .v w :: xs, ws, h => by
    simp only [valsE] at h
    cases q : valsE xs with
    | none => rw [q] at h; cases h
    | some us =>
      rw [q] at h
      cases h
      rw [valsE_ok q]; rfl
  | .sl _ :: _, _, h => nomatch h
  | .fl .. :: _, _, h => nomatch h
/-- a row of few things, by looking -/
def fewB : List W → Nat → Bool
  | [], _ => true
  | _ :: _, 0 => false
  | _ :: ws, n + 1 => fewB ws n
theorem fewB_ok : ∀ {ws : List W} {n : Nat}, fewB ws n = true → ws.length ≤ n
  | [], _, _ => Nat.zero_le _
  | _ :: _, 0, h => nomatch h
  | _ :: ws, n + 1, h => by
    have := fewB_ok (ws := ws) (n := n) h
    simp only [List.length_cons]
    omega
theorem g_lstE {ws : List W} (h : valsE xs = some ws) (l : fewB ws 16777216 = true) (k : Q (.v (.lst ws)) ε) : LstE xs ε Q := ⟨ws, valsE_ok h, Nat.le_trans (fewB_ok l) lineBig, k⟩
/-- data that stand by themselves -/
def datsE : List EV → Option (List PyData)
  | [] => some []
  | .v (.d w) :: xs => (datsE xs).map fun ws => w :: ws
  | _ :: _ => none
def TupE (xs : List EV) (ε : Env) (Q : EV → Env → Prop) : Prop := ∃ (ws : List W) (ds : List PyData), xs = ws.map EV.v ∧ Rfys ws ds ∧ ws.length ≤ sizeLine ∧ Q (.v (.d (.tuple ds))) ε
theorem g_tup (h : ts ε fun xs ε1 => TupE xs ε1 Q) : tTup ts ε Q := h
theorem g_tupE {ws : List W} {ds : List PyData} (h : valsE xs = some ws) (rf : Rfys ws ds) (l : fewB ws 16777216 = true) (k : Q (.v (.d (.tuple ds))) ε) : TupE xs ε Q := ⟨ws, ds, valsE_ok h, rf, Nat.le_trans (fewB_ok l) lineBig, k⟩
variable {tl th : TOA} {O : Option Int → Env → Prop}
def PartE (x : EV) (ε : Env) (O : Option Int → Env → Prop) : Prop := ∃ i, x = .v (.d (.int i)) ∧ O (some i) ε
theorem g_noPart (k : O none ε) : tNoPart ε O := k
theorem g_part (h : te ε fun x ε1 => PartE x ε1 O) : tPart te ε O := h
theorem g_partE {i : Int} (k : O (some i) ε) : PartE (.v (.d (.int i))) ε O := ⟨i, rfl, k⟩
def SlE (x : EV) (lo hi : Option Int) (ε : Env) (Q : EV → Env → Prop) : Prop := ∃ w ds ε4, cnt ε x = some w ∧ bck x ε = some ε4 ∧ DL w ds ∧ Q (.v (.lst ((cutD ds lo hi).map W.d))) ε4
theorem g_sl (h : te ε fun x ε1 => tl ε1 fun lo ε2 => th ε2 fun hi ε3 => SlE x lo hi ε3 Q) : tSlL te tl th ε Q := h
theorem g_slE {lo hi : Option Int} {ds : List PyData} (h1 : cnt ε x = some w) (h2 : bck x ε = some ε4) (h3 : DL w ds) (k : Q (.v (.lst ((cutD ds lo hi).map W.d))) ε4) : SlE x lo hi ε Q := ⟨_, _, _, h1, h2, h3, k⟩
def DgetE (x y : EV) (ε : Env) (Q : EV → Env → Prop) : Prop := ∃ ds k d ε3, cnt ε x = some (WD ds) ∧ y = .v (.d (kD k)) ∧ valD ds k = some d ∧ bck x ε = some ε3 ∧ Q (.v (.d d)) ε3
theorem g_dget (h : to ε fun x ε1 => ti ε1 fun y ε2 => DgetE x y ε2 Q) : tDget to ti ε Q := h
theorem g_dgetS {ds : List (Key × PyData)} {k : Str} {d : PyData} (h1 : cnt ε x = some (WD ds)) (h3 : valD ds (Sum.inr k : Key) = some d) (h4 : bck x ε = some ε3) (q : Q (.v (.d d)) ε3) : DgetE x (.v (.d (.str k))) ε Q := ⟨ds, .inr k, d, ε3, h1, rfl, h3, h4, q⟩
theorem g_dgetI {ds : List (Key × PyData)} {k : Int} {d : PyData} (h1 : cnt ε x = some (WD ds)) (h3 : valD ds (Sum.inl k : Key) = some d) (h4 : bck x ε = some ε3) (q : Q (.v (.d d)) ε3) : DgetE x (.v (.d (.int k))) ε Q := ⟨ds, .inl k, d, ε3, h1, rfl, h3, h4, q⟩
def DinE (n : Bool) (y x : EV) (ε : Env) (Q : EV → Env → Prop) : Prop := ∃ ds k ε3, y = .v (.d (kD k)) ∧ cnt ε x = some (WD ds) ∧ bck x ε = some ε3 ∧ Q (.v (.d (.bool (if n then !(valD ds k).isSome else (valD ds k).isSome)))) ε3
theorem g_din {n : Bool} (h : ti ε fun y ε1 => to ε1 fun x ε2 => DinE n y x ε2 Q) : tDin n ti to ε Q := h
theorem g_dinS {ds : List (Key × PyData)} {k : Str} (h1 : cnt ε x = some (WD ds)) (h4 : bck x ε = some ε3) (q : Q (.v (.d (.bool (valD ds (Sum.inr k : Key)).isSome))) ε3) : DinE false (.v (.d (.str k))) x ε Q := ⟨ds, .inr k, ε3, rfl, h1, h4, q⟩
theorem g_ninS {ds : List (Key × PyData)} {k : Str} (h1 : cnt ε x = some (WD ds)) (h4 : bck x ε = some ε3) (q : Q (.v (.d (.bool (!(valD ds (Sum.inr k : Key)).isSome)))) ε3) : DinE true (.v (.d (.str k))) x ε Q := ⟨ds, .inr k, ε3, rfl, h1, h4, q⟩
theorem g_dinI {ds : List (Key × PyData)} {k : Int} (h1 : cnt ε x = some (WD ds)) (h4 : bck x ε = some ε3) (q : Q (.v (.d (.bool (valD ds (Sum.inl k : Key)).isSome))) ε3) : DinE false (.v (.d (.int k))) x ε Q := ⟨ds, .inl k, ε3, rfl, h1, h4, q⟩
theorem g_ninI {ds : List (Key × PyData)} {k : Int} (h1 : cnt ε x = some (WD ds)) (h4 : bck x ε = some ε3) (q : Q (.v (.d (.bool (!(valD ds (Sum.inl k : Key)).isSome)))) ε3) : DinE true (.v (.d (.int k))) x ε Q := ⟨ds, .inl k, ε3, rfl, h1, h4, q⟩
def Dg2E (x : EV) (ti tf : TEA) (ε : Env) (Q : EV → Env → Prop) : Prop := ∃ ds0, cnt ε x = some (WD ds0) ∧ ti ε fun y ε2 => tf ε2 fun z ε3 => ∃ ds k dz ε4, cnt ε3 x = some (WD ds) ∧ y = .v (.d (kD k)) ∧ z = .v (.d dz) ∧ bck x ε3 = some ε4 ∧ Q (.v (.d ((valD ds k).getD dz))) ε4
def Dg2F (x y z : EV) (ε : Env) (Q : EV → Env → Prop) : Prop := ∃ ds k dz ε4, cnt ε x = some (WD ds) ∧ y = .v (.d (kD k)) ∧ z = .v (.d dz) ∧ bck x ε = some ε4 ∧ Q (.v (.d ((valD ds k).getD dz))) ε4
theorem g_dg2 (h : to ε fun x ε1 => Dg2E x ti tf ε1 Q) : tDget2 to ti tf ε Q := h
theorem g_dg2E {ds0 : List (Key × PyData)} (h1 : cnt ε x = some (WD ds0)) (k : ti ε fun y ε2 => tf ε2 fun z ε3 => Dg2F x y z ε3 Q) : Dg2E x ti tf ε Q := ⟨_, h1, k⟩
theorem g_dg2S {ds : List (Key × PyData)} {k : Str} {dz : PyData} (h1 : cnt ε x = some (WD ds)) (h4 : bck x ε = some ε4) (q : Q (.v (.d ((valD ds (Sum.inr k : Key)).getD dz))) ε4) : Dg2F x (.v (.d (.str k))) (.v (.d dz)) ε Q := ⟨ds, .inr k, dz, ε4, h1, rfl, rfl, h4, q⟩
theorem g_dg2S' {ds : List (Key × PyData)} {k : Str} {dz d : PyData} (h1 : cnt ε x = some (WD ds)) (h2 : (valD ds (Sum.inr k : Key)).getD dz = d) (h4 : bck x ε = some ε4) (q : Q (.v (.d d)) ε4) : Dg2F x (.v (.d (.str k))) (.v (.d dz)) ε Q := by
  subst h2
  exact ⟨ds, .inr k, dz, ε4, h1, rfl, rfl, h4, q⟩
theorem g_dg2I' {ds : List (Key × PyData)} {k : Int} {dz d : PyData} (h1 : cnt ε x = some (WD ds)) (h2 : (valD ds (Sum.inl k : Key)).getD dz = d) (h4 : bck x ε = some ε4) (q : Q (.v (.d d)) ε4) : Dg2F x (.v (.d (.int k))) (.v (.d dz)) ε Q := by
  subst h2
  exact ⟨ds, .inl k, dz, ε4, h1, rfl, rfl, h4, q⟩
theorem g_dg2I {ds : List (Key × PyData)} {k : Int} {dz : PyData} (h1 : cnt ε x = some (WD ds)) (h4 : bck x ε = some ε4) (q : Q (.v (.d ((valD ds (Sum.inl k : Key)).getD dz))) ε4) : Dg2F x (.v (.d (.int k))) (.v (.d dz)) ε Q := ⟨ds, .inl k, dz, ε4, h1, rfl, rfl, h4, q⟩
def Dg1E (x : EV) (ti : TEA) (ε : Env) (Q : EV → Env → Prop) : Prop := ∃ ds0, cnt ε x = some (WD ds0) ∧ ti ε fun y ε2 => ∃ ds k ε4, cnt ε2 x = some (WD ds) ∧ y = .v (.d (kD k)) ∧ bck x ε2 = some ε4 ∧ Q (.v (.d ((valD ds k).getD .none))) ε4
def Dg1F (x y : EV) (ε : Env) (Q : EV → Env → Prop) : Prop := ∃ ds k ε4, cnt ε x = some (WD ds) ∧ y = .v (.d (kD k)) ∧ bck x ε = some ε4 ∧ Q (.v (.d ((valD ds k).getD .none))) ε4
theorem g_dg1 (h : to ε fun x ε1 => Dg1E x ti ε1 Q) : tDget1 to ti ε Q := h
theorem g_dg1E {ds0 : List (Key × PyData)} (h1 : cnt ε x = some (WD ds0)) (k : ti ε fun y ε2 => Dg1F x y ε2 Q) : Dg1E x ti ε Q := ⟨_, h1, k⟩
theorem g_dg1S {ds : List (Key × PyData)} {k : Str} (h1 : cnt ε x = some (WD ds)) (h4 : bck x ε = some ε4) (q : Q (.v (.d ((valD ds (Sum.inr k : Key)).getD .none))) ε4) : Dg1F x (.v (.d (.str k))) ε Q := ⟨ds, .inr k, ε4, h1, rfl, h4, q⟩
theorem g_dg1S' {ds : List (Key × PyData)} {k : Str} {d : PyData} (h1 : cnt ε x = some (WD ds)) (h2 : (valD ds (Sum.inr k : Key)).getD .none = d) (h4 : bck x ε = some ε4) (q : Q (.v (.d d)) ε4) : Dg1F x (.v (.d (.str k))) ε Q := by
  subst h2
  exact ⟨ds, .inr k, ε4, h1, rfl, h4, q⟩
theorem g_dg1I {ds : List (Key × PyData)} {k : Int} (h1 : cnt ε x = some (WD ds)) (h4 : bck x ε = some ε4) (q : Q (.v (.d ((valD ds (Sum.inl k : Key)).getD .none))) ε4) : Dg1F x (.v (.d (.int k))) ε Q := ⟨ds, .inl k, ε4, h1, rfl, h4, q⟩
variable {dx dy : PyData} {tc2 : TEA}
def ChE (R R' : W → W → W → Prop) (x y : EV) (tc : TEA) (ε : Env) (Q : EV → Env → Prop) : Prop := ∃ dx dy k, x = .v (.d dx) ∧ y = .v (.d dy) ∧ R (.d dx) (.d dy) (.d (.bool k)) ∧
  if k = true then tc ε fun z ε3 => ∃ dz r, z = .v (.d dz) ∧ R' (.d dy) (.d dz) (.d r) ∧ Q (.v (.d r)) ε3 else Q (.v (.d (.bool false))) ε
def ChF (R' : W → W → W → Prop) (dy : PyData) (z : EV) (ε : Env) (Q : EV → Env → Prop) : Prop := ∃ dz r, z = .v (.d dz) ∧ R' (.d dy) (.d dz) (.d r) ∧ Q (.v (.d r)) ε
theorem g_ch (h : ta ε fun x ε1 => tb ε1 fun y ε2 => ChE R R' x y tc ε2 Q) : tChainA R R' ta tb tc ε Q := h
theorem g_chE {k : Bool} (hr : R (.d dx) (.d dy) (.d (.bool k))) (h : IfP k (tc ε fun z ε3 => ChF R' dy z ε3 Q) (Q (.v (.d (.bool false))) ε)) : ChE R R' (.v (.d dx)) (.v (.d dy)) tc ε Q := ⟨dx, dy, k, rfl, rfl, hr, h⟩
theorem g_chF {dz r : PyData} (hr : R' (.d dy) (.d dz) (.d r)) (h : Q (.v (.d r)) ε) : ChF R' dy (.v (.d dz)) ε Q := ⟨dz, r, rfl, hr, h⟩
def LvE (x : EV) (ε : Env) (Q : EV → Env → Prop) : Prop := ∃ ds ε2, cnt ε x = some (WD ds) ∧ bck x ε = some ε2 ∧ ds.length ≤ 16777216 ∧ Q (.v (.lst ((ds.map (·.2)).map W.d))) ε2
theorem g_lv (h : to ε fun x ε1 => LvE x ε1 Q) : tLVals to ε Q := h
theorem g_lvE {ds : List (Key × PyData)} (h1 : cnt ε x = some (WD ds)) (h2 : bck x ε = some ε2) (h3 : ds.length ≤ 16777216) (k : Q (.v (.lst ((ds.map (·.2)).map W.d))) ε2) : LvE x ε Q := ⟨_, _, h1, h2, h3, k⟩
def RdB (T : String) (R : W → List W → W → Prop) (x : EV) (ts : TAA) (ε : Env) (Q : EV → Env → Prop) : Prop := ∃ w0, cnt ε x = some w0 ∧ tyW w0 T ∧ ts ε fun xs ε2 => ∃ w ws res ε3, cnts ε2 (x :: xs) = some (w :: ws) ∧ bcks (x :: xs) ε2 = some ε3 ∧ R w ws res ∧ Q (.v res) ε3
def RdE (R : W → List W → W → Prop) (x : EV) (xs : List EV) (ε : Env) (Q : EV → Env → Prop) : Prop := ∃ w ws res ε3, cnts ε (x :: xs) = some (w :: ws) ∧ bcks (x :: xs) ε = some ε3 ∧ R w ws res ∧ Q (.v res) ε3
theorem g_rd {T : String} {R : W → List W → W → Prop} (h : to ε fun x ε1 => RdB T R x ts ε1 Q) : tRd T R to ts ε Q := h
theorem g_rdB {T : String} {R : W → List W → W → Prop} {w0 : W} (h1 : cnt ε x = some w0) (h2 : tyW w0 T) (k : ts ε fun xs ε2 => RdE R x xs ε2 Q) : RdB T R x ts ε Q := ⟨_, h1, h2, k⟩
theorem g_rdE {R : W → List W → W → Prop} {ws : List W} {res : W} (h1 : cnts ε (x :: xs) = some (w :: ws)) (h2 : bcks (x :: xs) ε = some ε3) (h3 : R w ws res) (k : Q (.v res) ε3) : RdE R x xs ε Q := ⟨_, _, _, _, h1, h2, h3, k⟩
def NegE (x : EV) (ε : Env) (Q : EV → Env → Prop) : Prop := ∃ i, x = .v (.d (.int i)) ∧ Q (.v (.d (.int (-i)))) ε
theorem g_neg (h : te ε fun x ε1 => NegE x ε1 Q) : tNeg te ε Q := h
theorem g_negE {i : Int} (k : Q (.v (.d (.int (-i)))) ε) : NegE (.v (.d (.int i))) ε Q := ⟨i, rfl, k⟩
/-! ## statements -/
variable {D : EndsA} {s1 s2 : TSA} {g : TGA} {gs : TGsA} {N : Env → Prop}
def seqD (D : EndsA) (n : Env → Prop) : EndsA := { nx := n, rt := D.rt, bk := D.bk, ct := D.ct }
def forD (D : EndsA) (n : Env → Prop) : EndsA := { nx := n, rt := D.rt, bk := D.nx, ct := n }
theorem g_seq (h : s1 (seqD D fun ε' => s2 D ε') ε) : tSeq s1 s2 D ε := h
def NxE (D : EndsA) (ε : Env) : Prop := D.nx ε
def RtE (D : EndsA) (x : EV) (ε : Env) : Prop := D.rt x ε
def BkE (D : EndsA) (ε : Env) : Prop := D.bk ε
def CtE (D : EndsA) (ε : Env) : Prop := D.ct ε
/-- a stop between two parts: what follows gets a name -/
theorem g_stop (k : ∀ N : Env → Prop, (∀ ε, s2 D ε → N ε) → s1 (seqD D N) ε) : tSeq s1 s2 D ε := k _ fun _ h => h
theorem g_next (h : NxE D ε) : tNext D ε := h
theorem g_nxS {n : Env → Prop} (h : n ε) : NxE (seqD D n) ε := h
theorem g_rtS {n : Env → Prop} (h : RtE D x ε) : RtE (seqD D n) x ε := h
theorem g_bkS {n : Env → Prop} (h : BkE D ε) : BkE (seqD D n) ε := h
theorem g_ctS {n : Env → Prop} (h : CtE D ε) : CtE (seqD D n) ε := h
theorem g_nxF {n : Env → Prop} (h : n ε) : NxE (forD D n) ε := h
theorem g_rtF {n : Env → Prop} (h : RtE D x ε) : RtE (forD D n) x ε := h
theorem g_bkF {n : Env → Prop} (h : NxE D ε) : BkE (forD D n) ε := h
theorem g_ctF {n : Env → Prop} (h : n ε) : CtE (forD D n) ε := h
theorem g_bk (h : BkE D ε) : tBreak D ε := h
theorem g_ct (h : CtE D ε) : tCont D ε := h
theorem g_ret (h : te ε fun x ε1 => RtE D x ε1) : tRet te D ε := h
theorem g_retN (h : RtE D (.v (.d .none)) ε) : tRetN D ε := h
def DropE (x : EV) (ε : Env) (D : EndsA) : Prop := ∃ ε2, bck x ε = some ε2 ∧ D.nx ε2
theorem g_drop (h : te ε fun x ε1 => DropE x ε1 D) : tDrop te D ε := h
theorem g_dropV (h : NxE D ε) : DropE (.v w) ε D := ⟨_, rfl, h⟩
theorem g_dropE (h1 : bck x ε = some ε2) (h : NxE D ε2) : DropE x ε D := ⟨_, h1, h⟩
theorem g_ifS (h : t ε fun c ε1 => IfP c (s1 D ε1) (s2 D ε1)) : tIfS t s1 s2 D ε := h
def AsgE (x : EV) (ε : Env) (g : TGA) (D : EndsA) : Prop := ∃ w ε2, Tak x ε w ε2 ∧ g w ε2 D.nx
theorem g_asg (h : te ε fun x ε1 => AsgE x ε1 g D) : tAsg te g D ε := h
theorem g_asgV (h : g w ε fun ε' => NxE D ε') : AsgE (.v w) ε g D := ⟨_, _, .v _ _, h⟩
theorem g_asgE (h1 : Tak x ε w ε2) (h : g w ε2 fun ε' => NxE D ε') : AsgE x ε g D := ⟨_, _, h1, h⟩
theorem g_name {ε' : Env} (h1 : Nat.ble (i + 1) ε.length = true) (h2 : ε.set i (some w) = ε') (h : N ε') : gName i w ε N := ⟨Nat.le_of_ble_eq_true h1, h2 ▸ h⟩
theorem g_gtup {n : Nat} {ds : List PyData} (h1 : ds.length = n) (h : gs ds ε N) : gTup n gs (.d (.tuple ds)) ε N := ⟨ds, rfl, h1, h⟩
theorem g_gnil (h : N ε) : gNil [] ε N := ⟨rfl, h⟩
theorem g_gcons {d : PyData} {ds : List PyData} (h : g (.d d) ε fun ε' => gs ds ε' N) : gCons g gs (d :: ds) ε N := ⟨d, ds, rfl, h⟩
def GixE (w : W) (x y : EV) (ε : Env) (N : Env → Prop) : Prop := ∃ (k : Nat) (n : Int) (j : Nat) (ws : List W), x = .sl k ∧ y = .v (.d (.int n)) ∧ ε[k]? = some (some (.lst ws)) ∧ ixN ws.length n = some j ∧ N (ε.set k (some (.lst (ws.set j w))))
theorem g_gix (h : to ε fun x ε1 => ti ε1 fun y ε2 => GixE w x y ε2 N) : gIx to ti w ε N := h
theorem g_gixE {n : Int} {j : Nat} {ws : List W} (h1 : ε[i]? = some (some (.lst ws))) (h2 : ixN ws.length n = some j) (h : N (ε.set i (some (.lst (ws.set j w))))) : GixE w (.sl i) (.v (.d (.int n))) ε N := ⟨i, n, j, ws, rfl, rfl, h1, h2, h⟩
def DputE (x y v : EV) (ε : Env) (D : EndsA) : Prop := ∃ d ds k ε4, v = .v (.d d) ∧ y = .v (.d (kD k)) ∧ cnt ε x = some (WD ds) ∧ ds.length < sizeLine ∧ put x (WD (putD ds k d)) ε = some ε4 ∧ D.nx ε4
theorem g_dput (h : te ε fun v ε1 => to ε1 fun x ε2 => ti ε2 fun y ε3 => DputE x y v ε3 D) : tDput to ti te D ε := h
theorem g_dputS {d : PyData} {k : Str} {ds : List (Key × PyData)} (h1 : cnt ε x = some (WD ds)) (h2 : ds.length < sizeLine) (h3 : put x (WD (putD ds (Sum.inr k : Key) d)) ε = some ε4) (h : NxE D ε4) : DputE x (.v (.d (.str k))) (.v (.d d)) ε D := ⟨d, ds, .inr k, ε4, rfl, rfl, h1, h2, h3, h⟩
theorem g_dputI {d : PyData} {k : Int} {ds : List (Key × PyData)} (h1 : cnt ε x = some (WD ds)) (h2 : ds.length < sizeLine) (h3 : put x (WD (putD ds (Sum.inl k : Key) d)) ε = some ε4) (h : NxE D ε4) : DputE x (.v (.d (.int k))) (.v (.d d)) ε D := ⟨d, ds, .inl k, ε4, rfl, rfl, h1, h2, h3, h⟩
def AugE (i : Nat) (d : PyData) (R : W → W → W → Prop) (x : EV) (ε : Env) (D : EndsA) : Prop := ∃ w r ε2, cnt ε x = some w ∧ bck x ε = some ε2 ∧ R (.d d) w r ∧ i < ε2.length ∧ D.nx (ε2.set i (some r))
theorem g_aug {d : PyData} (h0 : ε[i]? = some (some (.d d))) (h : te ε fun x ε1 => AugE i d R x ε1 D) : tAug i R te D ε := ⟨d, h0, h⟩
theorem g_augE {d : PyData} {ε5 : Env} (h1 : cnt ε x = some w) (h2 : bck x ε = some ε2) (h3 : R (.d d) w r) (h4 : Nat.ble (i + 1) ε2.length = true) (h5 : ε2.set i (some r) = ε5) (h : NxE D ε5) : AugE i d R x ε D := ⟨_, _, _, h1, h2, h3, Nat.le_of_ble_eq_true h4, h5 ▸ h⟩
def ParE (is : List Nat) (xs : List EV) (ε : Env) (D : EndsA) : Prop := ∃ ws : List W, xs = ws.map EV.v ∧ is.length = ws.length ∧ (∀ i ∈ is, i < ε.length) ∧ D.nx (setsW ε is ws)
theorem g_par {is : List Nat} (h : ts ε fun xs ε1 => ParE is xs ε1 D) : tParA is ts D ε := h
theorem g_parE {is : List Nat} {ws : List W} {ε' : Env} (h1 : valsE xs = some ws) (h2 : is.length = ws.length) (h3 : is.all (fun i => Nat.ble (i + 1) ε.length) = true) (h4 : setsW ε is ws = ε') (h : NxE D ε') : ParE is xs ε D :=
  ⟨ws, valsE_ok h1, h2, fun i hi => Nat.le_of_ble_eq_true (List.all_eq_true.mp h3 i hi), h4 ▸ h⟩
/-! ## what a loop walks -/
variable {I : EV → List PyData → Env → Prop}
def R1E (xs : List EV) (ε : Env) (I : EV → List PyData → Env → Prop) : Prop := ∃ j : Int, xs = [.v (.d (.int j))] ∧ -(2 ^ 62) ≤ j ∧ j < 2 ^ 62 ∧ I (.v (.d .none)) (rngD 0 j.toNat) ε
theorem g_iR1 (h : ts ε fun xs ε1 => R1E xs ε1 I) : iR1 ts ε I := h
theorem g_r1E {j : Int} (h1 : -(2 ^ 62) ≤ j ∧ j < 2 ^ 62) (h : I (.v (.d .none)) (rngD 0 j.toNat) ε) : R1E [.v (.d (.int j))] ε I := ⟨j, rfl, h1.1, h1.2, h⟩
def R2E (xs : List EV) (ε : Env) (I : EV → List PyData → Env → Prop) : Prop := ∃ i j : Int, xs = [.v (.d (.int i)), .v (.d (.int j))] ∧ (-(2 ^ 62) ≤ i ∧ i < 2 ^ 62 ∧ -(2 ^ 62) ≤ j ∧ j < 2 ^ 62) ∧ I (.v (.d .none)) (rngD i (j - i).toNat) ε
theorem g_iR2 (h : ts ε fun xs ε1 => R2E xs ε1 I) : iR2 ts ε I := h
theorem g_r2E {i j : Int} (h1 : -(2 ^ 62) ≤ i ∧ i < 2 ^ 62 ∧ -(2 ^ 62) ≤ j ∧ j < 2 ^ 62) (h : I (.v (.d .none)) (rngD i (j - i).toNat) ε) : R2E [.v (.d (.int i)), .v (.d (.int j))] ε I := ⟨i, j, rfl, h1, h⟩
def ILE (x : EV) (ε : Env) (I : EV → List PyData → Env → Prop) : Prop := ∃ w ds, cnt ε x = some w ∧ DL w ds ∧ I x ds ε
theorem g_iL (h : te ε fun x ε1 => ILE x ε1 I) : iL te ε I := h
theorem g_iLE {ds : List PyData} (h1 : cnt ε x = some w) (h2 : DL w ds) (h : I x ds ε) : ILE x ε I := ⟨_, _, h1, h2, h⟩
def ITE (x : EV) (ε : Env) (I : EV → List PyData → Env → Prop) : Prop := ∃ w ds, cnt ε x = some w ∧ DT w ds ∧ I x ds ε
theorem g_iT (h : te ε fun x ε1 => ITE x ε1 I) : iT te ε I := h
theorem g_iTE {ds : List PyData} (h1 : cnt ε x = some w) (h2 : DT w ds) (h : I x ds ε) : ITE x ε I := ⟨_, _, h1, h2, h⟩
def ISE (x : EV) (ε : Env) (I : EV → List PyData → Env → Prop) : Prop := ∃ z, x = .v (.d (.str z)) ∧ I x (chD z) ε
theorem g_iS (h : te ε fun x ε1 => ISE x ε1 I) : iS te ε I := h
theorem g_iSE {z : Str} (h : I (.v (.d (.str z))) (chD z) ε) : ISE (.v (.d (.str z))) ε I := ⟨z, rfl, h⟩
def IEE (xs : List EV) (ε : Env) (I : EV → List PyData → Env → Prop) : Prop := ∃ rv w ds, xs = [rv] ∧ cnt ε rv = some w ∧ DL w ds ∧ I rv (enumD ds) ε
theorem g_iE (h : ts ε fun xs ε1 => IEE xs ε1 I) : iE ts ε I := h
theorem g_iEE {ds : List PyData} (h1 : cnt ε x = some w) (h2 : DL w ds) (h : I x (enumD ds) ε) : IEE [x] ε I := ⟨x, w, ds, rfl, h1, h2, h⟩
/-- a loop, by what holds ahead of each turn -/
def ForE (bp : List Nat) (rv : EV) (ds : List PyData) (g : TGA) (tb : TSA) (D : EndsA) (ε1 : Env) : Prop := ∃ (w : W) (Pv : Nat → Env → Prop), cnt ε1 rv = some w ∧ (∀ i, rv = .sl i → i ∈ bp) ∧ Pv 0 ε1 ∧ (∀ i ε, i ≤ ds.length → Pv i ε → cnt ε rv = some w) ∧
  (∀ i d ε, ds[i]? = some d → Pv i ε → g (.d d) ε fun ε2 => tb { nx := Pv (i + 1), ct := Pv (i + 1), bk := fun ε => ∃ ε', bck rv ε = some ε' ∧ D.nx ε', rt := fun r ε => ∃ ε', bck rv ε = some ε' ∧ D.rt r ε' } ε2) ∧
  (∀ ε, Pv ds.length ε → ∃ ε', bck rv ε = some ε' ∧ D.nx ε')
variable {bp : List Nat} {tb' : TSA} {ti' : TIA}
theorem g_for (h : ti' ε fun rv ds ε1 => ForE bp rv ds g tb' D ε1) : tFor bp ti' g tb' D ε := h
/-- over something that stands by itself -/
theorem g_forV {ds : List PyData} (Pv : Nat → Env → Prop) (h0 : Pv 0 ε) (turn : ∀ i d ε, ds[i]? = some d → Pv i ε → g (.d d) ε fun ε2 => tb' (forD D (Pv (i + 1))) ε2)
    (fin : ∀ ε, Pv ds.length ε → NxE D ε) : ForE bp (.v w) ds g tb' D ε :=
  ⟨w, Pv, rfl, (by intro i e; cases e), h0, fun i ε _ _ => rfl, fun i d ε hd hp => by
    have := turn i d ε hd hp
    have e : ∀ E : EndsA, E = { nx := Pv (i + 1), ct := Pv (i + 1), bk := fun ε => ∃ ε', bck (.v w) ε = some ε' ∧ D.nx ε', rt := fun r ε => ∃ ε', bck (.v w) ε = some ε' ∧ D.rt r ε' } → E = forD D (Pv (i + 1)) := fun E q => by
      rw [q]
      have e1 : (fun ε => ∃ ε', bck (.v w) ε = some ε' ∧ D.nx ε') = fun ε => NxE D ε := funext fun ε => propext ⟨fun ⟨ε', e, h⟩ => by cases e; exact h, fun h => ⟨ε, rfl, h⟩⟩
      have e2 : (fun r ε => ∃ ε', bck (.v w) ε = some ε' ∧ D.rt r ε') = fun r ε => RtE D r ε := funext fun r => funext fun ε => propext ⟨fun ⟨ε', e, h⟩ => by cases e; exact h, fun h => ⟨ε, rfl, h⟩⟩
      rw [e1, e2]; rfl
    rw [e _ rfl]
    exact this, fun ε hp => ⟨ε, rfl, fin ε hp⟩⟩
/-- over a slot's row -/
theorem g_forS {ds : List PyData} (Pv : Nat → Env → Prop) (hb : i ∈ bp) (hw : ε[i]? = some (some w)) (h0 : Pv 0 ε) (hk : ∀ j ε, Pv j ε → ε[i]? = some (some w)) (turn : ∀ j d ε, ds[j]? = some d → Pv j ε → g (.d d) ε fun ε2 => tb' (forD D (Pv (j + 1))) ε2)
    (fin : ∀ ε, Pv ds.length ε → NxE D ε) : ForE bp (.sl i) ds g tb' D ε :=
  ⟨w, Pv, (by show (ε[i]?).join = _; rw [hw]; rfl), (by intro j e; cases e; exact hb), h0, fun j ε _ hp => (by show (ε[i]?).join = _; rw [hk j ε hp]; rfl), fun j d ε hd hp => by
    have := turn j d ε hd hp
    have e : ∀ E : EndsA, E = { nx := Pv (j + 1), ct := Pv (j + 1), bk := fun ε => ∃ ε', bck (.sl i) ε = some ε' ∧ D.nx ε', rt := fun r ε => ∃ ε', bck (.sl i) ε = some ε' ∧ D.rt r ε' } → E = forD D (Pv (j + 1)) := fun E q => by
      rw [q]
      have e1 : (fun ε => ∃ ε', bck (.sl i) ε = some ε' ∧ D.nx ε') = fun ε => NxE D ε := funext fun ε => propext ⟨fun ⟨ε', e, h⟩ => by cases e; exact h, fun h => ⟨ε, rfl, h⟩⟩
      have e2 : (fun r ε => ∃ ε', bck (.sl i) ε = some ε' ∧ D.rt r ε') = fun r ε => RtE D r ε := funext fun r => funext fun ε => propext ⟨fun ⟨ε', e, h⟩ => by cases e; exact h, fun h => ⟨ε, rfl, h⟩⟩
      rw [e1, e2]; rfl
    rw [e _ rfl]
    exact this, fun ε hp => ⟨ε, rfl, fin ε hp⟩⟩
def CompE (vs : List Nat) (rv : EV) (ds : List PyData) (g : TGA) (tt : TTA) (te : TEA) (ε1 : Env) (Q : EV → Env → Prop) : Prop := ∃ (w : W) (Pv : Nat → List W → Env → Prop), cnt ε1 rv = some w ∧ (∀ i, rv = .sl i → i ∉ vs) ∧ Pv 0 [] (wipeW ε1 vs) ∧ (∀ i acc ε, i ≤ ds.length → Pv i acc ε → cnt ε rv = some w) ∧
  (∀ i d acc ε, ds[i]? = some d → Pv i acc ε → g (.d d) ε fun ε2 => tt ε2 fun b ε3 => if b = true then te ε3 fun y ε4 => ∃ wy ε5, Tak y ε4 wy ε5 ∧ acc.length < sizeLine ∧ Pv (i + 1) (acc ++ [wy]) (wipeW ε5 vs) else Pv (i + 1) acc (wipeW ε3 vs)) ∧
  (∀ acc ε, Pv ds.length acc ε → ∃ ε', bck rv ε = some ε' ∧ Q (.v (.lst acc)) (restW ε1 vs ε'))
variable {vs : List Nat} {tt : TTA}
theorem g_comp (h : ti' ε fun rv ds ε1 => CompE vs rv ds g tt te ε1 Q) : tComp vs ti' g tt te ε Q := h
def AccE (y : EV) (ε : Env) (n : Nat) (N : W → Env → Prop) : Prop := ∃ wy ε5, Tak y ε wy ε5 ∧ n < sizeLine ∧ N wy ε5
theorem g_accV {n : Nat} {N : W → Env → Prop} (h : n < sizeLine) (k : N w ε) : AccE (.v w) ε n N := ⟨_, _, .v _ _, h, k⟩
theorem g_accE {n : Nat} {N : W → Env → Prop} (h1 : Tak x ε w ε2) (h : n < sizeLine) (k : N w ε2) : AccE x ε n N := ⟨_, _, h1, h, k⟩
theorem g_yes (k : P true ε) : tYesA ε P := k
theorem g_compV {ds : List PyData} (Pv : Nat → List W → Env → Prop) (h0 : Pv 0 [] (wipeW ε vs)) (turn : ∀ i d acc ε, ds[i]? = some d → Pv i acc ε → g (.d d) ε fun ε2 => tt ε2 fun b ε3 => IfP b (te ε3 fun y ε4 => AccE y ε4 acc.length fun wy ε5 => Pv (i + 1) (acc ++ [wy]) (wipeW ε5 vs)) (Pv (i + 1) acc (wipeW ε3 vs)))
    (fin : ∀ acc ε', Pv ds.length acc ε' → Q (.v (.lst acc)) (restW ε vs ε')) : CompE vs (.v w) ds g tt te ε Q :=
  ⟨w, Pv, rfl, (by intro i e; cases e), h0, fun i acc ε _ _ => rfl, fun i d acc ε hd hp => turn i d acc ε hd hp, fun acc ε hp => ⟨ε, rfl, fin acc ε hp⟩⟩
theorem g_compS {ds : List PyData} (Pv : Nat → List W → Env → Prop) (hb : vs.contains i = false) (hw : ε[i]? = some (some w)) (h0 : Pv 0 [] (wipeW ε vs)) (hk : ∀ j acc ε, Pv j acc ε → ε[i]? = some (some w)) (turn : ∀ i d acc ε, ds[i]? = some d → Pv i acc ε → g (.d d) ε fun ε2 => tt ε2 fun b ε3 => IfP b (te ε3 fun y ε4 => AccE y ε4 acc.length fun wy ε5 => Pv (i + 1) (acc ++ [wy]) (wipeW ε5 vs)) (Pv (i + 1) acc (wipeW ε3 vs)))
    (fin : ∀ acc ε', Pv ds.length acc ε' → Q (.v (.lst acc)) (restW ε vs ε')) : CompE vs (.sl i) ds g tt te ε Q :=
  ⟨w, Pv, (by show (ε[i]?).join = _; rw [hw]; rfl), (by intro j e; cases e; intro z; rw [List.contains_iff_mem.mpr z] at hb; cases hb), h0, fun j acc ε _ hp => (by show (ε[i]?).join = _; rw [hk j acc ε hp]; rfl), fun i d acc ε hd hp => turn i d acc ε hd hp, fun acc ε hp => ⟨ε, rfl, fin acc ε hp⟩⟩
def whD (D : EndsA) (n : Env → Prop) : EndsA := { nx := n, rt := D.rt, bk := D.nx, ct := n }
theorem g_nxW {n : Env → Prop} (h : n ε) : NxE (whD D n) ε := h
theorem g_rtW {n : Env → Prop} (h : RtE D x ε) : RtE (whD D n) x ε := h
theorem g_bkW {n : Env → Prop} (h : NxE D ε) : BkE (whD D n) ε := h
theorem g_ctW {n : Env → Prop} (h : n ε) : CtE (whD D n) ε := h
/-- a while, by a number that falls -/
theorem g_while (Pv : Nat → Env → Prop) (m0 : Nat) (h0 : Pv m0 ε) (turn : ∀ m ε, Pv m ε → t ε fun b ε1 => IfP b (tb' (whD D fun ε' => ∃ m', m' < m ∧ Pv m' ε') ε1) (NxE D ε1)) : tWhile t tb' D ε := ⟨Pv, ⟨m0, h0⟩, turn⟩
/-! ## the end of a def -/
/-- own arguments are among the slots that are not stored to, by looking -/
def ownB (bp : List Nat) : List W → Nat → Bool
  | [], _ => true
  | w :: ws, i => (match w with
    | .d _ => true
    | .v _ => true
    | _ => bp.contains i) && ownB bp ws (i + 1)
theorem ownB_ok {bp : List Nat} : ∀ {ws : List W} {i : Nat}, ownB bp ws i = true → ownIn bp ws i
  | [], _, _ => trivial
  | w :: ws, i, h => by
    have h1 : ownB bp ws (i + 1) = true := by
      unfold ownB at h
      rw [Bool.and_eq_true] at h
      exact h.2
    refine ⟨?_, ownB_ok h1⟩
    cases w with
    | d _ => trivial
    | v _ => trivial
    | lst ws' => unfold ownB at h; rw [Bool.and_eq_true] at h; exact List.contains_iff_mem.mp h.1
    | dk ws' => unfold ownB at h; rw [Bool.and_eq_true] at h; exact List.contains_iff_mem.mp h.1
    | ins C ws' => unfold ownB at h; rw [Bool.and_eq_true] at h; exact List.contains_iff_mem.mp h.1
    | tup ws' => unfold ownB at h; rw [Bool.and_eq_true] at h; exact List.contains_iff_mem.mp h.1
theorem g_end {bp : List Nat} {ws ws' : List W} {q : W → List W → Prop} {rw' : W} (h : Tak x ε rw' ε1) (h1 : ownB bp ws 0 = true) (h2 : finW ws 0 ε1 = some ws') (k : q rw' ws') : RtE (endsW bp ws q) x ε := ⟨_, _, _, h, ownB_ok h1, h2, k⟩
theorem g_endN {bp : List Nat} {ws ws' : List W} {q : W → List W → Prop} (h1 : ownB bp ws 0 = true) (h2 : finW ws 0 ε = some ws') (k : q (.d .none) ws') : NxE (endsW bp ws q) ε := ⟨_, ownB_ok h1, h2, k⟩
theorem DL.n : DL (.lst []) [] := .L []
theorem DL.c {d : PyData} {ws : List W} {ds : List PyData} (h : DL (.lst ws) ds) : DL (.lst (.d d :: ws)) (d :: ds) := by
  cases h with
  | L ds => exact .L (d :: ds)
theorem Rfy.L' (ds : List PyData) : Rfy (.lst (ds.map W.d)) (.list ds) := .lst (Rfys.map ds)
end

/-! ## numbers -/
theorem log_ltA {i : Int} {n : Nat} (h : -(2 : Int) ^ n < i) (h2 : i < (2 : Int) ^ n) : i.natAbs.log2 ≤ n := by
  by_cases z : i.natAbs = 0
  · rw [z]; simp
  · have e : ((2 : Int) ^ n) = ((2 ^ n : Nat) : Int) := by simp
    rw [e] at h h2
    have : i.natAbs < 2 ^ n := by omega
    exact Nat.le_of_lt ((Nat.log2_lt z).mpr this)
theorem cmulA {i j : Int} (h : -(2 : Int) ^ 250 < i ∧ i < (2 : Int) ^ 250) (k : -(2 : Int) ^ 250 < j ∧ j < (2 : Int) ^ 250) : CMulW i j := by
  have a := log_ltA h.1 h.2
  have b := log_ltA k.1 k.2
  show i.natAbs.log2 + j.natAbs.log2 < 1000000
  omega
theorem cpow3A {i : Int} (h : -(2 : Int) ^ 250 < i ∧ i < (2 : Int) ^ 250) : CPowW i 3 := by
  refine ⟨by decide, ?_⟩
  have a := log_ltA h.1 h.2
  have b : Builtin.Int.intBits i ≤ i.natAbs.log2 + 1 := by
    unfold Builtin.Int.intBits
    split <;> omega
  omega
theorem cpowA {i k : Int} (h : -(2 : Int) ^ 250 < i ∧ i < (2 : Int) ^ 250) (hk : 0 ≤ k ∧ k ≤ 10) : CPowW i k := by
  refine ⟨hk.1, ?_⟩
  have a := log_ltA h.1 h.2
  have b : Builtin.Int.intBits i ≤ i.natAbs.log2 + 1 := by
    unfold Builtin.Int.intBits
    split <;> omega
  have : (Builtin.Int.intBits i : Int) * k ≤ 251 * 10 := Int.mul_le_mul (by omega) hk.2 hk.1 (by decide)
  omega
theorem cdivA {i j : Int} (h : 0 < j) (h2 : j < (2 : Int) ^ 250) : CDivW i j := by
  have p : (0 : Int) < (2 : Int) ^ 250 := by decide
  have := log_ltA (i := j) (n := 250) (by omega) h2
  exact ⟨h, by omega⟩
theorem max0 (x : Int) : 0 ≤ if x > 0 then x else 0 := by split <;> omega
theorem emod_lt' {i j : Int} (h : 0 < j) : i % j < j := Int.emod_lt_of_pos _ h
theorem emod_ge' {i j : Int} (h : 0 < j) : 0 ≤ i % j := Int.emod_nonneg _ (by omega)
theorem mulL {ws : List W} {ds : List PyData} {k : Int} (h : DL (.lst ws) ds) (h1 : -(2 ^ 63) ≤ k ∧ k < 2 ^ 63) (h2 : ds.length * k.toNat ≤ sizeLine) : MulR (.lst ws) (.d (.int k)) (.lst ((List.replicate k.toNat ds).flatten.map W.d)) := by
  cases h with
  | L ds => exact .lst h1.1 h1.2 h2
theorem lenM {α : Type} {f : α → PyData} {xs : List α} : LenR [.lst ((xs.map f).map W.d)] (.d (.int xs.length)) := by
  have := LenR.L (.L (xs.map f))
  rwa [List.length_map] at this
theorem lenD {α : Type} {f : α → PyData} {xs : List α} : LenR [.d (.list (xs.map f))] (.d (.int xs.length)) := by
  have := LenR.L (.d (xs.map f))
  rwa [List.length_map] at this
/-! ## a walk over an own dict -/
section
variable {D : EndsA} {g : TGA} {tb : TSA} {ε : Env} {x : EV} {i : Nat} {w : W} {n : Env → Prop}
def forKD (i : Nat) (w : W) (D : EndsA) (n : Env → Prop) : EndsA := { nx := n, ct := n, bk := fun ε => i < ε.length ∧ NxE D (ε.set i (some w)), rt := fun r ε => i < ε.length ∧ RtE D r (ε.set i (some w)) }
theorem g_nxK (h : n ε) : NxE (forKD i w D n) ε := h
theorem g_ctK (h : n ε) : CtE (forKD i w D n) ε := h
theorem g_rtK (hi : i < ε.length) (h : RtE D x (ε.set i (some w))) : RtE (forKD i w D n) x ε := ⟨hi, h⟩
theorem g_bkK (hi : i < ε.length) (h : NxE D (ε.set i (some w))) : BkE (forKD i w D n) ε := ⟨hi, h⟩
theorem g_forK {ds : List (Key × PyData)} (Pv : Nat → Env → Prop) (hw : ε[i]? = some (some (WD ds))) (h0 : Pv 0 (ε.set i none))
    (turn : ∀ j k d ε', ds[j]? = some (k, d) → Pv j ε' → g (.d (kD k)) ε' fun ε2 => tb (forKD i (WD ds) D (Pv (j + 1))) ε2)
    (fin : ∀ ε', Pv ds.length ε' → i < ε'.length ∧ NxE D (ε'.set i (some (WD ds)))) : tForK i g tb D ε := ⟨ds, hw, Pv, h0, turn, fin⟩
end
end Ab

namespace Lc
open PySem PySem.Spec PyProof.Rows L2 Ab

local macro_rules | `(tactic| walk_at "sd") => `(tactic| first | assumption | omega | exact True.intro | decide | (simp only [List.length_map, List.length_append, List.length_cons, List.length_nil, List.length_range, List.length_replicate]; omega))
local macro_rules | `(tactic| walk_at "dl") => `(tactic| first | assumption | exact .d _ | exact .L _ | exact DL.n | (apply DL.c; walk_at "dl"))
local macro_rules | `(tactic| walk_at "rfys") => `(tactic| first | exact .nil | (apply Rfys.cons; (walk_at "rfy"); (walk_at "rfys")))
local macro_rules | `(tactic| walk_at "rfy") => `(tactic| first | exact .d _ | exact .L _ | assumption | (apply Rfy.lst; walk_at "rfys"))
local macro_rules | `(tactic| walk_at "at") => `(tactic| first | assumption | exact rfl | (apply atI_nat; first | assumption | exact rfl))
local macro_rules | `(tactic| walk_at "rel") => `(tactic| first
  | assumption
  | exact .int
  | exact .str
  | exact .mk
  | exact .bool
  | ((refine' MulR.int ?k1); (case k1 => (refine' cmulA ?k2 ?k3; (case k2 => walk_at "sd"); (case k3 => walk_at "sd"))))
  | ((refine' MulR.str ?k1); (case k1 => walk_at "sd"))
  | ((refine' mulL ?k1 ?k2 ?k3); (case k1 => walk_at "dl"); (case k2 => walk_at "sd"); (case k3 => walk_at "sd"))
  | ((refine' IxW.S ?k1 ?k2); (case k1 => first | walk_at "sd" | decide +kernel); (case k2 => walk_at "at"))
  | ((refine' IntR.mk ?k1); (case k1 => first | walk_at "sd" | (refine' cdivA ?k2 ?k3; (case k2 => walk_at "sd"); (case k3 => walk_at "sd")) | (refine' cpow3A ?k2; (case k2 => walk_at "sd"))))
  | ((refine' IxW.L ?k1 ?k2); (case k1 => walk_at "dl"); (case k2 => walk_at "at"))
  | ((refine' IxW.T ?k1 ?k2); (case k1 => exact .d _); (case k2 => walk_at "at"))
  | exact lenM
  | exact lenD
  | ((refine' LenR.L ?k1); (case k1 => walk_at "dl"))
  | ((refine' LenR.T ?k1); (case k1 => exact .d _))
  | ((refine' LenR.S ?k1); (case k1 => walk_at "sd"))
  | ((refine' ListR.L ?k1); (case k1 => walk_at "dl"))
  | ((refine' ListR.T ?k1); (case k1 => exact .d _))
  | ((refine' ListSR.mk ?k1); (case k1 => first | walk_at "sd" | decide +kernel))
  | ((refine' InR.strL ?k1); (case k1 => walk_at "dl"))
  | ((refine' AddR.str ?k1); (case k1 => walk_at "sd"))
  | ((refine' AddR.lst ?k1 ?k2 ?k3); (case k1 => walk_at "dl"); (case k2 => walk_at "dl"); (case k3 => walk_at "sd"))
  | ((refine' AppR.D ?k1); (case k1 => walk_at "sd"))
  | ((refine' AppR.G ?k1); (case k1 => walk_at "sd"))
  | ((refine' ExtR.mk ?k1); (case k1 => walk_at "sd"))
  | exact .mk True.intro
  | ((refine' InsR.mk ?k1 ?k2 ?k3); (case k1 => walk_at "sd"); (case k2 => walk_at "sd"); (case k3 => walk_at "sd"))
  | ((refine' IsiR.mk ?k1 ?k2); (case k1 => exact rfl); (case k2 => exact rfl))
  | ((refine' JoinXR.L ?k1 ?k2); (case k1 => walk_at "dl"); (case k2 => walk_at "sd"))
  | ((refine' StR0.mk ?k1); (case k1 => walk_at "sd"))
  | ((refine' JoinR.L ?k1 ?k2); (case k1 => walk_at "dl"); (case k2 => walk_at "sd"))
  | ((refine' DPopR.mk ?k1); (case k1 => walk_at "sd"))
  | ((refine' StrR.int ?k1); (case k1 => walk_at "sd")))
local macro_rules | `(tactic| walk_at "pu") => `(tactic| first | exact rfl | (apply puts_v; walk_at "pu") | (apply puts_fl; (walk_at "pu"); exact rfl))
local macro_rules | `(tactic| walk_at "ev") => `(tactic| dsimp only [List.set_cons_zero, List.set_cons_succ, List.set_nil, putW, putP, setsW, Nat.reduceAdd, Nat.zero_add, Int.reduceToNat, restW, wipeW, keepW, plainW, List.getElem?_cons_zero, List.getElem?_cons_succ, ↓reduceIte])
local macro_rules | `(tactic| walk_at "g1") => `(tactic| first
  | with_reducible refine' g_seq ?_
  | with_reducible refine' g_asg ?_
  | with_reducible refine' g_drop ?_
  | with_reducible refine' g_ret ?_
  | with_reducible refine' g_retN ?_
  | with_reducible refine' g_ifS ?_
  | with_reducible refine' g_next ?_
  | with_reducible refine' g_bin ?_
  | with_reducible refine' g_K ?_
  | ((with_reducible refine' g_varD ?h1 ?_); (case h1 => exact rfl))
  | ((with_reducible refine' g_varL ?h1 ?_); (case h1 => exact rfl))
  | ((with_reducible refine' g_varK ?h1 ?_); (case h1 => exact rfl))
  | ((with_reducible refine' g_varI ?h1 ?_); (case h1 => exact rfl))
  | ((with_reducible refine' g_varV ?h1 ?_); (case h1 => exact rfl))
  | ((with_reducible refine' g_binPow ?h1 ?h2 ?_); (case h1 => first | exact ⟨by decide, by decide⟩ | (refine' cpowA ?k2 ?k3; (case k2 => walk_at "sd"); (case k3 => decide))); (case h2 => first | ((dsimp only [Int.reduceToNat]); done) | ((dsimp only [Int.reduceToNat]); exact rfl)))
  | ((with_reducible refine' g_binV ?h1 ?_); (case h1 => walk_at "rel"))
  | ((with_reducible refine' g_binE ?h1 ?h2 ?h3 ?h4 ?h5 ?_); (case h1 => exact rfl); (case h2 => exact rfl); (case h3 => exact rfl); (case h4 => exact rfl); (case h5 => walk_at "rel"); try walk_at "ev")
  | with_reducible refine' g_bl ?_
  | with_reducible refine' g_blE ?_
  | with_reducible refine' g_and ?_
  | with_reducible refine' g_or ?_
  | with_reducible refine' g_not ?_
  | with_reducible refine' g_if ?_
  | with_reducible refine' g_andV ?_
  | with_reducible refine' g_orV ?_
  | with_reducible refine' g_notV ?_
  | with_reducible refine' g_boE ?_
  | with_reducible refine' g_ifInT ?_
  | with_reducible refine' g_ifInF ?_
  | with_reducible refine' g_ifN ?_
  | ((with_reducible refine' g_ifT ?h1 ?_); (case h1 => exact rfl))
  | ((with_reducible refine' g_ifF ?h1 ?_); (case h1 => exact rfl))
  | ((with_reducible refine' g_ifDT ?h1 ?_); (case h1 => first | assumption | omega))
  | ((with_reducible refine' g_ifDF ?h1 ?_); (case h1 => first | assumption | omega))
  | with_reducible refine' g_nil ?_
  | with_reducible refine' g_cons ?_
  | with_reducible refine' g_cb ?_
  | ((with_reducible refine' g_cbE ?h1 ?h2 ?h3 ?_); (case h1 => exact rfl); (case h2 => exact rfl); (case h3 => walk_at "rel"))
  | with_reducible refine' g_mut ?_
  | ((with_reducible refine' g_mutB ?h1 ?h2 ?_); (case h1 => exact rfl); (case h2 => exact rfl))
  | ((with_reducible refine' g_mutE0 ?h1 ?h2 ?h3 ?_); (case h1 => exact rfl); (case h2 => walk_at "rel"); (case h3 => exact rfl); try walk_at "ev")
  | ((with_reducible refine' g_mutE1 ?h1 ?h2 ?h3 ?_); (case h1 => exact rfl); (case h2 => walk_at "rel"); (case h3 => exact rfl); try walk_at "ev")
  | ((with_reducible refine' g_mutE2 ?h1 ?h2 ?h3 ?_); (case h1 => exact rfl); (case h2 => walk_at "rel"); (case h3 => exact rfl); try walk_at "ev")
  | with_reducible refine' g_neg ?_
  | with_reducible refine' g_negE ?_
  | with_reducible refine' g_lv ?_
  | ((with_reducible refine' g_lvE ?h1 ?h2 ?h3 ?_); (case h1 => exact rfl); (case h2 => exact rfl); (case h3 => walk_at "sd"))
  | with_reducible refine' g_rd ?_
  | ((with_reducible refine' g_rdB ?h1 ?h2 ?_); (case h1 => exact rfl); (case h2 => exact rfl))
  | ((with_reducible refine' g_rdE ?h1 ?h2 ?h3 ?_); (case h1 => exact rfl); (case h2 => exact rfl); (case h3 => walk_at "rel"))
  | with_reducible refine' g_own ?_
  | with_reducible refine' g_ownV ?_
  | with_reducible refine' g_frz ?_
  | with_reducible refine' g_frzD ?_
  | ((with_reducible refine' g_frzV ?h1 ?_); (case h1 => walk_at "rfy"))
  | ((with_reducible refine' g_frzS ?h1 ?h2 ?_); (case h1 => exact rfl); (case h2 => walk_at "rfy"); try walk_at "ev")
  | with_reducible refine' g_lend ?_
  | with_reducible refine' g_lendV ?_
  | with_reducible refine' g_lendF ?_
  | ((with_reducible refine' g_lendS ?h1 (fun _ => ?_)); (case h1 => exact rfl); try walk_at "ev")
  | with_reducible refine' g_late ?_
  | with_reducible refine' g_lateN ?_
  | with_reducible refine' g_lateV ?_
  | with_reducible refine' g_lateF ?_
  | ((with_reducible refine' g_lateS ?h1 (fun _ => ?_)); (case h1 => exact rfl); try walk_at "ev")
  | with_reducible refine' g_call ?_
  | ((with_reducible refine' g_callE ?h1 ?_); (case h1 => exact rfl); try dsimp only)
  | ((with_reducible refine' g_putE ?h1 ?h2 ?_); (case h1 => exact rfl); (case h2 => walk_at "pu"); try walk_at "ev")
  | with_reducible refine' g_lst ?_
  | ((with_reducible refine' g_lstE ?h1 ?h2 ?_); (case h1 => exact rfl); (case h2 => exact rfl))
  | with_reducible refine' g_tup ?_
  | ((with_reducible refine' g_tupE ?h1 ?h2 ?h3 ?_); (case h1 => exact rfl); (case h2 => walk_at "rfys"); (case h3 => exact rfl))
  | with_reducible refine' g_noPart ?_
  | with_reducible refine' g_part ?_
  | with_reducible refine' g_partE ?_
  | with_reducible refine' g_sl ?_
  | ((with_reducible refine' g_slE ?h1 ?h2 ?h3 ?_); (case h1 => exact rfl); (case h2 => exact rfl); (case h3 => walk_at "dl"))
  | with_reducible refine' g_dget ?_
  | ((with_reducible refine' g_dgetS ?h1 ?h2 ?h3 ?_); (case h1 => exact rfl); (case h2 => first | assumption | exact rfl); (case h3 => exact rfl))
  | ((with_reducible refine' g_dgetI ?h1 ?h2 ?h3 ?_); (case h1 => exact rfl); (case h2 => first | assumption | exact rfl); (case h3 => exact rfl))
  | with_reducible refine' g_din ?_
  | ((with_reducible refine' g_dinS ?h1 ?h2 ?_); (case h1 => exact rfl); (case h2 => exact rfl))
  | ((with_reducible refine' g_ninS ?h1 ?h2 ?_); (case h1 => exact rfl); (case h2 => exact rfl))
  | ((with_reducible refine' g_dinI ?h1 ?h2 ?_); (case h1 => exact rfl); (case h2 => exact rfl))
  | ((with_reducible refine' g_ninI ?h1 ?h2 ?_); (case h1 => exact rfl); (case h2 => exact rfl))
  | with_reducible refine' g_dg2 ?_
  | ((with_reducible refine' g_dg2E ?h1 ?_); (case h1 => exact rfl))
  | ((with_reducible refine' g_dg2S' ?h1 ?h2 ?h3 ?_); (case h1 => exact rfl); (case h2 => assumption); (case h3 => exact rfl))
  | ((with_reducible refine' g_dg2I' ?h1 ?h2 ?h3 ?_); (case h1 => exact rfl); (case h2 => assumption); (case h3 => exact rfl))
  | ((with_reducible refine' g_dg2S ?h1 ?h2 ?_); (case h1 => exact rfl); (case h2 => exact rfl))
  | ((with_reducible refine' g_dg2I ?h1 ?h2 ?_); (case h1 => exact rfl); (case h2 => exact rfl))
  | with_reducible refine' g_dg1 ?_
  | ((with_reducible refine' g_dg1E ?h1 ?_); (case h1 => exact rfl))
  | ((with_reducible refine' g_dg1S' ?h1 ?h2 ?h3 ?_); (case h1 => exact rfl); (case h2 => assumption); (case h3 => exact rfl))
  | ((with_reducible refine' g_dg1S ?h1 ?h2 ?_); (case h1 => exact rfl); (case h2 => exact rfl))
  | ((with_reducible refine' g_dg1I ?h1 ?h2 ?_); (case h1 => exact rfl); (case h2 => exact rfl))
  | with_reducible refine' g_ch ?_
  | ((with_reducible refine' g_chE ?h1 ?_); (case h1 => walk_at "rel"))
  | ((with_reducible refine' g_chF ?h1 ?_); (case h1 => walk_at "rel"))
  | with_reducible refine' g_tru ?_
  | ((with_reducible refine' g_truE ?h1 ?h2 ?h3 ?_); (case h1 => exact rfl); (case h2 => exact rfl); (case h3 => constructor))
  | with_reducible refine' g_dropV ?_
  | ((with_reducible refine' g_dropE ?h1 ?_); (case h1 => exact rfl); try walk_at "ev")
  | with_reducible refine' g_asgV ?_
  | ((with_reducible refine' g_name ?h1 ?h2 ?_); (case h1 => exact rfl); (case h2 => first | ((walk_at "ev"); exact rfl) | ((walk_at "ev"); done) | exact rfl))
  | ((with_reducible refine' g_gtup ?h1 ?_); (case h1 => exact rfl))
  | with_reducible refine' g_gnil ?_
  | with_reducible refine' g_gcons ?_
  | with_reducible refine' g_gix ?_
  | ((with_reducible refine' g_gixE ?h1 ?h2 ?_); (case h1 => exact rfl); (case h2 => first | assumption | exact rfl); try walk_at "ev")
  | with_reducible refine' g_dput ?_
  | ((with_reducible refine' g_dputS ?h1 ?h2 ?h3 ?_); (case h1 => exact rfl); (case h2 => walk_at "sd"); (case h3 => exact rfl); try walk_at "ev")
  | ((with_reducible refine' g_dputI ?h1 ?h2 ?h3 ?_); (case h1 => exact rfl); (case h2 => walk_at "sd"); (case h3 => exact rfl); try walk_at "ev")
  | ((with_reducible refine' g_aug ?h1 ?_); (case h1 => exact rfl))
  | ((with_reducible refine' g_augE ?h1 ?h2 ?h3 ?h4 ?h5 ?_); (case h1 => exact rfl); (case h2 => exact rfl); (case h3 => walk_at "rel"); (case h4 => exact rfl); (case h5 => first | ((walk_at "ev"); exact rfl) | ((walk_at "ev"); done) | exact rfl))
  | with_reducible refine' g_par ?_
  | ((with_reducible refine' g_parE ?h1 ?h2 ?h3 ?h4 ?_); (case h1 => exact rfl); (case h2 => exact rfl); (case h3 => exact rfl); (case h4 => first | ((walk_at "ev"); exact rfl) | ((walk_at "ev"); done) | exact rfl))
  | with_reducible refine' g_iR1 ?_
  | ((with_reducible refine' g_r1E ?h1 ?_); (case h1 => walk_at "sd"))
  | with_reducible refine' g_iR2 ?_
  | ((with_reducible refine' g_r2E ?h1 ?_); (case h1 => walk_at "sd"))
  | with_reducible refine' g_iL ?_
  | ((with_reducible refine' g_iLE ?h1 ?h2 ?_); (case h1 => exact rfl); (case h2 => walk_at "dl"))
  | with_reducible refine' g_iT ?_
  | ((with_reducible refine' g_iTE ?h1 ?h2 ?_); (case h1 => exact rfl); (case h2 => exact .d _))
  | with_reducible refine' g_iS ?_
  | with_reducible refine' g_iSE ?_
  | with_reducible refine' g_iE ?_
  | ((with_reducible refine' g_iEE ?h1 ?h2 ?_); (case h1 => exact rfl); (case h2 => walk_at "dl"))
  | with_reducible refine' g_for ?_
  | with_reducible refine' g_comp ?_
  | with_reducible refine' g_yes ?_
  | ((with_reducible refine' g_accV ?h1 ?_); (case h1 => walk_at "sd"))
  | with_reducible refine' g_nxS ?_
  | with_reducible refine' g_nxF ?_
  | with_reducible refine' g_nxW ?_
  | with_reducible refine' g_rtS ?_
  | with_reducible refine' g_rtF ?_
  | with_reducible refine' g_rtW ?_
  | ((with_reducible refine' g_ownE ?h1 ?_); (case h1 => exact .mv rfl); try walk_at "ev")
  | with_reducible refine' g_bk ?_
  | with_reducible refine' g_ct ?_
  | with_reducible refine' g_bkS ?_
  | with_reducible refine' g_bkF ?_
  | with_reducible refine' g_bkW ?_
  | with_reducible refine' g_nxK ?_
  | with_reducible refine' g_ctK ?_
  | ((with_reducible refine' g_rtK ?h1 ?_); (case h1 => (simp only [List.length_cons, List.length_nil, List.length_set]; omega)); try walk_at "ev")
  | ((with_reducible refine' g_bkK ?h1 ?_); (case h1 => (simp only [List.length_cons, List.length_nil, List.length_set]; omega)); try walk_at "ev")
  | with_reducible refine' g_ctS ?_
  | with_reducible refine' g_ctF ?_
  | with_reducible refine' g_ctW ?_)
local macro_rules | `(tactic| walk_at "go") => `(tactic| repeat walk_at "g1")
local macro_rules | `(tactic| walk_at "end") => `(tactic| first
  | ((with_reducible refine' g_end ?h1 ?h2 ?h3 ?_); (case h1 => first | exact .v _ _ | exact .mv rfl); (case h2 => exact rfl); (case h3 => exact rfl))
  | ((with_reducible refine' g_endN ?h2 ?h3 ?_); (case h2 => exact rfl); (case h3 => exact rfl)))
/-! what all families of helpers share: sources of draws, rows of texts, events -/
/-- a source of draws: its three numbers -/
structure Sou where
  a : Int
  b : Int
  c : Int
def Src (s : Sou) : W := .lst [.d (.int s.a), .d (.int s.b), .d (.int s.c)]
/-- … behind at most n draws -/
structure Ok (n : Nat) (s : Sou) : Prop where
  a0 : 0 ≤ s.a
  b0 : 0 ≤ s.b
  b1 : s.b < 2 ^ 160
  c0 : 0 ≤ s.c
  c1 : s.c ≤ n
theorem Ok.mono {n m : Nat} {s : Sou} (h : Ok n s) (k : n ≤ m) : Ok m s := ⟨h.a0, h.b0, h.b1, h.c0, by have := h.c1; omega⟩
def sp_source : SpW := fun ws Q => ∃ (ns : List Int) (k : Nat), ws = [.d (.list (ns.map PyData.int)), .d (.int k)] ∧ ns.length ≤ 63 ∧ k < 63 ∧ ∀ s, Ok 0 s → Q (Src s) ws
theorem len_source {ws : List W} {Q : W → List W → Prop} (h : sp_source ws Q) : ws.length = 2 := by obtain ⟨_, _, rfl, _⟩ := h; rfl
theorem mono_source : SpW.Mono sp_source := fun ws Q Q' h ⟨ns, k, e, h1, h2, q⟩ => ⟨ns, k, e, h1, h2, fun s x => h _ _ (q s x)⟩
def sp_draw : SpW := fun ws Q => ∃ (s : Sou) (n : Nat) (m : Int), ws = [Src s, .d (.int m)] ∧ Ok n s ∧ n < 2 ^ 40 ∧ 0 < m ∧ m < 2 ^ 100 ∧ ∀ s' r, Ok (n + 1) s' → 0 ≤ r → r < m → Q (.d (.int r)) [Src s', .d (.int m)]
theorem len_draw {ws : List W} {Q : W → List W → Prop} (h : sp_draw ws Q) : ws.length = 2 := by obtain ⟨_, _, _, rfl, _⟩ := h; rfl
theorem mono_draw : SpW.Mono sp_draw := fun ws Q Q' h ⟨s, n, m, e, h1, h2, h3, h4, q⟩ => ⟨s, n, m, e, h1, h2, h3, h4, fun s' r x1 x2 x3 => h _ _ (q s' r x1 x2 x3)⟩
theorem go_draw {s : Sou} {n : Nat} {m : Int} {Q : W → List W → Prop} (h1 : Ok n s) (h2 : n < 2 ^ 40) (h3 : 0 < m ∧ m < 2 ^ 100) (k : ∀ s' r, Ok (n + 1) s' → 0 ≤ r → r < m → Q (.d (.int r)) [Src s', .d (.int m)]) : sp_draw [Src s, .d (.int m)] Q := ⟨s, n, m, rfl, h1, h2, h3.1, h3.2, k⟩
theorem perm_at {α : Type} : ∀ {l : List α} {i : Nat} (h : i < l.length), (l[i] :: l.eraseIdx i).Perm l
  | a :: l, 0, _ => by simp
  | a :: l, i + 1, h => by
    rw [List.getElem_cons_succ, List.eraseIdx_cons_succ]
    exact (List.Perm.swap _ _ _).trans ((perm_at (Nat.lt_of_succ_lt_succ h)).cons a)
theorem popAt {ds : List PyData} {n : Int} (h : 0 ≤ n) (h2 : n < ds.length) (h3 : ds.length ≤ 100000) : PopAtR (.lst (ds.map W.d)) [.d (.int n)] (.lst ((ds.eraseIdx n.toNat).map W.d)) (.d (ds[n.toNat]'(by omega))) :=
  .mk (j := n.toNat) (by omega) (by omega) (PySem.StrLaws.seqIndex_nonneg h (by omega)) (by simp)
def sp_mixed : SpW := fun ws Q => ∃ (s : Sou) (n : Nat) (ds : List PyData), ws = [Src s, .lst (ds.map W.d)] ∧ Ok n s ∧ n + ds.length < 2 ^ 40 ∧ ds.length ≤ 100000 ∧ ∀ (s' : Sou) (es : List PyData), Ok (n + ds.length) s' → es.Perm ds → Q (.lst (es.map W.d)) [Src s', .lst (ds.map W.d)]
theorem len_mixed {ws : List W} {Q : W → List W → Prop} (h : sp_mixed ws Q) : ws.length = 2 := by obtain ⟨_, _, _, rfl, _⟩ := h; rfl
theorem mono_mixed : SpW.Mono sp_mixed := fun ws Q Q' h ⟨s, n, ds, e, h1, h2, h3, q⟩ => ⟨s, n, ds, e, h1, h2, h3, fun s' es x1 x2 => h _ _ (q s' es x1 x2)⟩
theorem go_mixed {s : Sou} {n : Nat} {ds : List PyData} {Q : W → List W → Prop} (h1 : Ok n s) (h2 : n + ds.length < 2 ^ 40) (h3 : ds.length ≤ 100000) (k : ∀ (s' : Sou) (es : List PyData), Ok (n + ds.length) s' → es.Perm ds → Q (.lst (es.map W.d)) [Src s', .lst (ds.map W.d)]) : sp_mixed [Src s, .lst (ds.map W.d)] Q := ⟨s, n, ds, rfl, h1, h2, h3, k⟩
/-- a row of texts -/
abbrev kW (ks : List Str) : W := .lst ((ks.map PyData.str).map W.d)
def unS : PyData → Str
  | .str x => x
  | _ => ⟨#[]⟩
theorem strs_perm {es : List PyData} {xs : List Str} (h : es.Perm (xs.map PyData.str)) : ∃ ks : List Str, ks.Perm xs ∧ es = ks.map PyData.str := by
  refine ⟨es.map unS, ?_, ?_⟩
  · have := h.map unS
    rw [List.map_map] at this
    have e : (unS ∘ PyData.str) = id := rfl
    rwa [e, List.map_id] at this
  · rw [List.map_map]
    have : ∀ d ∈ es, (PyData.str ∘ unS) d = d := fun d hd => by
      obtain ⟨x, _, rfl⟩ := List.mem_map.mp (h.subset hd)
      rfl
    rw [List.map_congr_left this, List.map_id']
theorem cut_to {α : Type} (xs : List α) (n : Nat) : Ab.cutD xs none (some (n : Int)) = xs.take n := by
  unfold Ab.cutD
  rw [HT.sIx_none, HT.sIx_nat]
  simp [List.take_eq_take_iff]
/-- an event: none sends, some k writes k -/
abbrev Ev := Option Str
def evD : Ev → PyData
  | none => .tuple [.str "send"]
  | some k => .tuple [.str "write", .str k]
abbrev eW (es : List Ev) : W := .lst ((es.map evD).map W.d)
/-- the keys that wait behind events, none if a send finds none -/
def play : List Str → List Ev → Option (List Str)
  | wt, [] => some wt
  | [], none :: _ => none
  | _ :: wt, none :: es => play wt es
  | wt, some k :: es => play (if k ∈ wt then wt else wt ++ [k]) es
theorem eqv_nil {α : Type} (f : α → PyData) (xs : List α) : PyData.eqv (.list (xs.map f)) (.list []) = xs.isEmpty := by
  cases xs <;> simp [PyData.eqv, PyData.eqvAll]
theorem depth_list {n : Nat} : ∀ {xs : List PyData}, (∀ x ∈ xs, x.depth ≤ n) → (PyData.list xs).depth ≤ n + 1 ∧ (PyData.tuple xs).depth ≤ n + 1
  | [], _ => by simp [PyData.depth, PyData.depthAll]
  | x :: xs, h => by
    have h1 := h x List.mem_cons_self
    have h2 := depth_list (n := n) (xs := xs) fun y hy => h y (List.mem_cons_of_mem _ hy)
    simp only [PyData.depth, PyData.depthAll] at h2 ⊢
    omega
theorem lay_all : ∀ {xs : List PyData}, (∀ x ∈ xs, x.canLay0 = true) → PyData.canLayAll0 xs = true
  | [], _ => by simp [PyData.canLayAll0]
  | x :: xs, h => by
    simp only [PyData.canLayAll0, Bool.and_eq_true]
    exact ⟨h x List.mem_cons_self, lay_all fun y hy => h y (List.mem_cons_of_mem _ hy)⟩
theorem shaped_list {n : Nat} {xs : List PyData} (hn : n < 64) (h : ∀ x ∈ xs, x.canLay0 = true) (h2 : ∀ x ∈ xs, x.depth ≤ n) : SeqAt.shaped (.list xs) = true := by
  unfold SeqAt.shaped
  rw [Bool.and_eq_true, decide_eq_true_eq]
  exact ⟨by simp only [PyData.canLay0]; exact lay_all h, by have := (depth_list h2).1; omega⟩
theorem strs_lay {xs : List Str} (h : ∀ x ∈ xs, PyData.strOk x = true) : ∀ d ∈ xs.map PyData.str, d.canLay0 = true := fun d hd => by
  obtain ⟨x, hx, rfl⟩ := List.mem_map.mp hd
  simp only [PyData.canLay0]
  exact h x hx
theorem strs_depth {xs : List Str} : ∀ d ∈ xs.map PyData.str, d.depth ≤ 0 := fun d hd => by
  obtain ⟨x, hx, rfl⟩ := List.mem_map.mp hd
  simp [PyData.depth]
theorem play_app : ∀ (es fs : List Ev) (wt : List Str), play wt (es ++ fs) = (play wt es).bind fun w => play w fs
  | [], fs, wt => by cases wt <;> rfl
  | none :: es, fs, [] => rfl
  | none :: es, fs, x :: wt => play_app es fs wt
  | some k :: es, fs, [] => play_app es fs _
  | some k :: es, fs, x :: wt => play_app es fs _
theorem play_send {es : List Ev} {x : Str} {wt : List Str} (h : play [] es = some (x :: wt)) : play [] (es ++ [none]) = some wt := by
  rw [play_app, h]
  cases wt <;> rfl
theorem play_write {es : List Ev} {k : Str} {wt : List Str} (h : play [] es = some wt) : play [] (es ++ [some k]) = some (if k ∈ wt then wt else wt ++ [k]) := by
  rw [play_app, h]
  cases wt with
  | nil => rfl
  | cons x wt =>
    show play (if k ∈ x :: wt then x :: wt else x :: wt ++ [k]) [] = _
    cases (if k ∈ x :: wt then x :: wt else x :: wt ++ [k]) <;> rfl
theorem play_len : ∀ {es : List Ev} {wt w2 : List Str}, play wt es = some w2 → w2.length ≤ wt.length + es.length
  | [], wt, w2, h => by
    cases wt <;> (cases h; simp)
  | none :: es, [], w2, h => by cases h
  | none :: es, x :: wt, w2, h => by
    have := play_len (es := es) (wt := wt) h
    simp only [List.length_cons]
    omega
  | some k :: es, [], w2, h => by
    have := play_len (es := es) (wt := if k ∈ [] then [] else [] ++ [k]) h
    simp at this ⊢
    omega
  | some k :: es, x :: wt, w2, h => by
    have := play_len (es := es) (wt := if k ∈ x :: wt then x :: wt else x :: wt ++ [k]) h
    split at this <;> simp at this ⊢ <;> omega

theorem ne_nil {xs : List Str} (h : ∀ x ∈ xs, PyData.strOk x = true) : NeR (kW xs) (.lst []) (.d (.bool (!xs.isEmpty))) := by
  have := NeR.data (wx := kW xs) (wy := .lst []) (x := .list (xs.map PyData.str)) (y := .list []) (Rfy.L _) (.lst .nil) (shaped_list (n := 0) (by decide) (strs_lay h) strs_depth) (by decide)
  rwa [eqv_nil] at this
theorem at_map {α : Type} {f : α → PyData} {xs : List α} {n : Int} (h : 0 ≤ n) (h2 : n < xs.length) : atI (xs.map f) n = some (f (xs[n.toNat]'(by omega))) := by
  obtain ⟨j, rfl⟩ := Int.eq_ofNat_of_zero_le h
  unfold atI
  rw [show ixN (xs.map f).length (j : Int) = some j from ?_]
  · have : j < xs.length := by omega
    simp [this]
  · unfold ixN
    rw [if_pos (by omega), if_pos (by simpa using h2)]
    simp
theorem at_str {xs : List Str} {n : Int} (h : 0 ≤ n) (h2 : n < xs.length) : atI (xs.map PyData.str) n = some (.str (xs[n.toNat]'(by omega))) := at_map h h2
theorem appS {xs : List Str} {x : Str} (h : xs.length < sizeLine) : AppR (kW xs) [.d (.str x)] (kW (xs ++ [x])) (.d .none) := by
  have := AppR.D (ds := xs.map PyData.str) (d := .str x) (by rwa [List.length_map])
  rwa [show xs.map PyData.str ++ [PyData.str x] = (xs ++ [x]).map PyData.str by simp] at this
theorem appE {es : List Ev} {e : Ev} (h : es.length < sizeLine) : AppR (eW es) [.d (evD e)] (eW (es ++ [e])) (.d .none) := by
  have := AppR.D (ds := es.map evD) (d := evD e) (by rwa [List.length_map])
  rwa [show es.map evD ++ [evD e] = (es ++ [e]).map evD by simp] at this
theorem valD_cons {κ : Type} [DecidableEq κ] (q : κ × PyData) (l : List (κ × PyData)) (j : κ) : valD (q :: l) j = if q.1 = j then some q.2 else valD l j := by
  unfold valD
  rw [List.find?_cons]
  by_cases e : q.1 = j
  · rw [if_pos e, show decide (q.1 = j) = true by simp [e]]; rfl
  · rw [if_neg e, show decide (q.1 = j) = false by simp [e]]
theorem valD_map {κ : Type} [DecidableEq κ] (k : κ) (d : PyData) (j : κ) : ∀ l : List (κ × PyData), valD (l.map fun q => if q.1 = k then (q.1, d) else q) j = if j = k then (if (l.any fun q => decide (q.1 = k)) = true then some d else none) else valD l j
  | [] => by by_cases e : j = k <;> simp [e, valD]
  | q :: l => by
    have ih := valD_map k d j l
    rw [List.map_cons, valD_cons, valD_cons, List.any_cons, ih]
    by_cases e : q.1 = k
    · rw [if_pos e, show decide (q.1 = k) = true by simp [e], Bool.true_or, if_pos rfl]
      by_cases e2 : j = k
      · rw [if_pos (show (q.1, d).1 = j by rw [e2]; exact e), if_pos e2]
      · rw [if_neg e2, if_neg (show ¬ (q.1, d).1 = j from fun z => e2 (z ▸ e)), if_neg e2, if_neg (show ¬ q.1 = j from fun z => e2 (z ▸ e))]
    · rw [if_neg e, show decide (q.1 = k) = false by simp [e], Bool.false_or]
      by_cases e2 : j = k
      · rw [if_pos e2, if_neg (show ¬ q.1 = j from fun z => e (z.trans e2)), if_pos e2]
      · rw [if_neg e2, if_neg e2]
theorem valD_app {κ : Type} [DecidableEq κ] (k : κ) (d : PyData) (j : κ) : ∀ l : List (κ × PyData), (l.any fun q => decide (q.1 = k)) = false → valD (l ++ [(k, d)]) j = if j = k then some d else valD l j
  | [], _ => by
    rw [List.nil_append, valD_cons]
    by_cases e : j = k
    · rw [if_pos e, if_pos (show (k, d).1 = j from e.symm)]
    · rw [if_neg e, if_neg (show ¬ (k, d).1 = j from fun z => e z.symm)]
  | q :: l, h => by
    rw [List.any_cons, Bool.or_eq_false_iff] at h
    have e : ¬ q.1 = k := by simpa using h.1
    rw [List.cons_append, valD_cons, valD_cons, valD_app k d j l h.2]
    by_cases e2 : j = k
    · rw [if_pos e2, if_neg (show ¬ q.1 = j from fun z => e (z.trans e2)), if_pos e2]
    · rw [if_neg e2, if_neg e2]
theorem putD_get {κ : Type} [DecidableEq κ] (ds : List (κ × PyData)) (k : κ) (d : PyData) (j : κ) : valD (putD ds k d) j = if j = k then some d else valD ds j := by
  unfold putD
  split
  · rename_i h
    rw [valD_map, h, if_pos rfl]
  · rename_i h
    exact valD_app k d j ds (by cases q : (ds.any fun q => decide (q.1 = k)) with | true => exact absurd q h | false => rfl)
theorem putD_len {κ : Type} [DecidableEq κ] (ds : List (κ × PyData)) (k : κ) (d : PyData) : (putD ds k d).length ≤ ds.length + 1 := by
  unfold putD
  split <;> simp
theorem put_has {ds : List (Key × PyData)} {k : Key} {d : PyData} : valD (putD ds k d) k = some d := by rw [putD_get, if_pos rfl]
/-! ## counted logs -/
def cD (p : Str × Int) : PyData := .tuple [.str p.1, .int p.2]
abbrev cW (cs : List (Str × Int)) : W := .lst ((cs.map cD).map W.d)
/-- the last count of a key -/
def lastC (cs : List (Str × Int)) (k : Str) : Option Int := (cs.reverse.find? fun p => decide (p.1 = k)).map (·.2)
theorem lastC_app (cs : List (Str × Int)) (k j : Str) (c : Int) : lastC (cs ++ [(k, c)]) j = if j = k then some c else lastC cs j := by
  unfold lastC
  rw [List.reverse_append, List.reverse_singleton, List.singleton_append, List.find?_cons]
  by_cases e : j = k
  · rw [if_pos e, show decide (k = j) = true by simp [e]]; rfl
  · rw [if_neg e, show decide (k = j) = false by simp [Ne.symm e]]
theorem lastC_none {cs : List (Str × Int)} {k : Str} (h : lastC cs k = none) : ∀ p ∈ cs, p.1 ≠ k := by
  intro p hp e
  unfold lastC at h
  rw [Option.map_eq_none_iff, List.find?_eq_none] at h
  exact h p (List.mem_reverse.mpr hp) (by simpa using e)
theorem lastC_mem {cs : List (Str × Int)} {k : Str} {c : Int} (h : lastC cs k = some c) : (k, c) ∈ cs := by
  unfold lastC at h
  rw [Option.map_eq_some_iff] at h
  obtain ⟨p, h1, h2⟩ := h
  have m := List.mem_reverse.mp (List.mem_of_find?_eq_some h1)
  have e : p.1 = k := by simpa using List.find?_some h1
  rw [← e, ← h2]
  exact m
/-- the counts of each key increase -/
abbrev Incr (cs : List (Str × Int)) : Prop := cs.Pairwise fun p q => p.1 = q.1 → p.2 < q.2
theorem lastC_max {cs : List (Str × Int)} (h : Incr cs) {k : Str} {c : Int} (e : lastC cs k = some c) : ∀ p ∈ cs, p.1 = k → p.2 ≤ c := by
  intro p hp hk
  unfold lastC at e
  rw [Option.map_eq_some_iff] at e
  obtain ⟨q, h1, rfl⟩ := e
  have hr : cs.reverse.Pairwise fun p q => p.1 = q.1 → q.2 < p.2 := by
    rw [List.pairwise_reverse]
    exact h.imp fun {a b} x y => x y.symm
  have hq : q.1 = k := by simpa using List.find?_some h1
  obtain ⟨l1, l2, e2, hl⟩ := List.find?_eq_some_iff_append.mp h1 |>.2
  have hp' := List.mem_reverse.mpr hp
  rw [e2] at hp' hr
  rcases List.mem_append.mp hp' with z | z
  · have := hl p z
    simp [hk] at this
  · rcases List.mem_cons.mp z with rfl | z
    · exact Int.le_refl _
    · rw [List.pairwise_append, List.pairwise_cons] at hr
      have := hr.2.1.1 p z (by rw [hq, hk])
      omega
theorem appC {cs : List (Str × Int)} {p : Str × Int} (h : cs.length < sizeLine) : AppR (cW cs) [.d (.tuple [.str p.1, .int p.2])] (cW (cs ++ [p])) (.d .none) := by
  have := AppR.D (ds := cs.map cD) (d := cD p) (by rwa [List.length_map])
  rwa [show cs.map cD ++ [cD p] = (cs ++ [p]).map cD by simp] at this
theorem map_erase {α β : Type} (f : α → β) : ∀ (l : List α) (i : Nat), (l.map f).eraseIdx i = (l.eraseIdx i).map f
  | [], _ => rfl
  | _ :: _, 0 => rfl
  | a :: l, i + 1 => by
    rw [List.map_cons, List.eraseIdx_cons_succ, List.eraseIdx_cons_succ, List.map_cons, map_erase f l i]
theorem popS {xs : List Str} {n : Int} (h : 0 ≤ n) (h2 : n < xs.length) (h3 : xs.length ≤ 100000) : PopAtR (kW xs) [.d (.int n)] (kW (xs.eraseIdx n.toNat)) (.d (.str (xs[n.toNat]'(by omega)))) := by
  have := popAt (ds := xs.map PyData.str) h (by rwa [List.length_map]) (by rwa [List.length_map])
  rw [map_erase] at this
  simpa [kW] using this
/-- k0, k1, .. -/
def kName (n : Nat) : Str := "k" ++ Str.ofString (toString (n : Int))
theorem num_len {n : Nat} (h : n < 1000) : (Str.ofString (toString (n : Int))).length ≤ 4 :=
  (show ∀ j < 1000, (Str.ofString (toString ((j : Nat) : Int))).length ≤ 4 by decide +kernel) n h
theorem num_log {n : Nat} (h : n < 2000) : ((n : Int)).natAbs.log2 < 1920 := by
  have := log_ltA (i := (n : Int)) (n := 20) (by omega) (by omega)
  omega
/-- so many of some things -/
def sp_some : SpW := fun ws Q => ∃ (s : Sou) (n : Nat) (ds : List PyData) (m : Nat), ws = [Src s, .lst (ds.map W.d), .d (.int m)] ∧ Ok n s ∧ n + m < 2 ^ 40 ∧ ds.length ≤ 100000 ∧ m ≤ ds.length ∧
  ∀ (s' : Sou) (es rest : List PyData), Ok (n + m) s' → (es ++ rest).Perm ds → es.length = m → Q (.lst (es.map W.d)) [Src s', .lst (ds.map W.d), .d (.int m)]
theorem len_some {ws : List W} {Q : W → List W → Prop} (h : sp_some ws Q) : ws.length = 3 := by obtain ⟨_, _, _, _, rfl, _⟩ := h; rfl
theorem mono_some : SpW.Mono sp_some := fun ws Q Q' h ⟨s, n, ds, m, e, h1, h2, h3, h4, q⟩ => ⟨s, n, ds, m, e, h1, h2, h3, h4, fun s' es rest x1 x2 x3 => h _ _ (q s' es rest x1 x2 x3)⟩
theorem go_some {s : Sou} {n m : Nat} {xs : List Str} {Q : W → List W → Prop} (h1 : Ok n s) (h2 : n + m < 2 ^ 40) (h3 : xs.length ≤ 100000) (h4 : m ≤ xs.length)
    (k : ∀ (s' : Sou) (ks rest : List Str), Ok (n + m) s' → (ks ++ rest).Perm xs → ks.length = m → Q (kW ks) [Src s', kW xs, .d (.int m)]) : sp_some [Src s, kW xs, .d (.int m)] Q :=
  ⟨s, n, xs.map PyData.str, m, rfl, h1, h2, by rwa [List.length_map], by rwa [List.length_map], fun s' es rest o p l => by
    obtain ⟨ls, pl, e⟩ := strs_perm p
    have e1 : es = (ls.take es.length).map PyData.str := by rw [List.map_take, ← e, List.take_left]
    have e2 : rest = (ls.drop es.length).map PyData.str := by rw [List.map_drop, ← e, List.drop_left]
    have ll : es.length ≤ ls.length := by
      have := congrArg List.length e
      rw [List.length_append, List.length_map] at this
      omega
    have := k s' (ls.take es.length) (ls.drop es.length) o (by rw [List.take_append_drop]; exact pl) (by rw [List.length_take]; omega)
    rw [show kW (ls.take es.length) = .lst (es.map W.d) by rw [kW, ← e1]] at this
    exact this⟩
theorem at_last {α : Type} {f : α → PyData} {xs : List α} {n : Int} (h : 0 ≤ n) (h2 : n < xs.length) : atI (xs.map f) (-1 - n) = some (f (xs[xs.length - 1 - n.toNat]'(by omega))) := by
  have := at_map (f := f) (xs := xs) (n := ((xs.length - 1 - n.toNat : Nat) : Int)) (by omega) (by omega)
  have e : ixN (xs.map f).length (-1 - n) = ixN (xs.map f).length ((xs.length - 1 - n.toNat : Nat) : Int) := by
    unfold ixN
    rw [List.length_map, if_neg (by omega), if_pos (by omega), if_pos (by omega), if_pos (by omega)]
    congr 1
    omega
  unfold atI at this ⊢
  rw [e]
  exact this
end Lc

namespace Ab
open PySem PySem.Spec PyProof.Rows L2
/-! ## i += j, i -= j, bits -/
section
variable {X : Cx}
theorem oa_iadd : OpA X (inplaceOp .Add) (IntR (fun _ _ => True) fun i j => i + j) := oa_int0 iop_add
theorem oa_isub : OpA X (inplaceOp .Sub) (IntR (fun _ _ => True) fun i j => i - j) := oa_int0 iop_sub
theorem oa_and : OpA X (binaryOp .BitAnd) (IntR (fun _ _ => True) fun i j => Builtin.bitAnd i j) := oa_int0 op_and
theorem oa_or : OpA X (binaryOp .BitOr) (IntR (fun _ _ => True) fun i j => Builtin.bitOr i j) := oa_int0 op_or
theorem oa_shl : OpA X (binaryOp .LShift) (IntR CPow fun i j => i * 2 ^ j.toNat) := oa_int op_shl
theorem oa_shr : OpA X (binaryOp .RShift) (IntR (fun _ j => 0 ≤ j) fun i j => i / 2 ^ j.toNat) := oa_int op_shr
abbrev IAddR := IntR (fun _ _ => True) fun i j => i + j
abbrev ISubR := IntR (fun _ _ => True) fun i j => i - j
abbrev AndR := IntR (fun _ _ => True) fun i j => Builtin.bitAnd i j
abbrev OrR := IntR (fun _ _ => True) fun i j => Builtin.bitOr i j
abbrev ShlR := IntR CPow fun i j => i * 2 ^ j.toNat
abbrev ShrR := IntR (fun _ j => 0 ≤ j) fun i j => i / 2 ^ j.toNat
end
end Ab

namespace Ab
open PySem PySem.Spec PyProof.Rows L2
/-! ## xs.index(x) of a row of texts -/
inductive IndexR : W → List W → W → Prop
  | S {w : W} {xs : List Str} {x : Str} {j : Nat} (h : DL w (xs.map PyData.str)) (e : xs[j]? = some x) (no : ∀ m < j, xs[m]? ≠ some x) : IndexR w [.d (.str x)] (.d (.int (j : Nat)))
theorem rd_index {X : Cx} : RdA X "list.index" IndexR := ⟨_, mt_index, fun F H w ws v vs res QH s c hr k => by
  cases hr with
  | @S xs x j h e no =>
    obtain ⟨⟨A, r⟩, c2⟩ := (show (∃ A, Rep X.K F H w v A) ∧ Cont X.K F H [.d (.str x)] vs from c)
    obtain ⟨v2, A2, rfl, r2⟩ := cont1 c2
    rw [rep_d, dq_str] at r2
    obtain ⟨a, us, rfl, sq, dq⟩ := h.ok s r
    rw [dqs_strs dq] at sq
    refine ⟨a, xs.map V.str, .str x, j, .str x, rfl, by rw [r2.1], sq, rfl, all_flatS xs, by rw [List.getElem?_map, e]; rfl, (beq_self_eq_true x : (x == x) = true), fun m z hm hz => ?_, k _ F H (New.pure (by rw [dq_int]))⟩
    rw [List.getElem?_map] at hz
    obtain ⟨y, hy, rfl⟩ := Option.map_eq_some_iff.mp hz
    show (y == x) = false
    rw [beq_eq_false_iff_ne]
    intro q
    rw [q] at hy
    exact no m hm hy⟩
end Ab

namespace Ab
open PySem PySem.Spec PyProof.Rows L2
/-! ## min(list), max(list) of ints; range with a step -/
section
variable {X : Cx} {pos : Pos}
theorem dqs_ints {K : PySem.W.Frag} {F : Hp} : ∀ {ys : List Int} {vs : List V}, Dqs K F (ys.map PyData.int) vs → vs = ys.map V.int
  | [], vs, h => by
    rw [List.map_nil, dqs_nil] at h
    rw [h]
    rfl
  | y :: ys, vs, h => by
    rw [List.map_cons, dqs_cons] at h
    obtain ⟨v, r, rfl, p, q⟩ := h
    rw [dq_int] at p
    rw [p, dqs_ints q]
    rfl
inductive MinLR : List W → W → Prop
  | mk {w : W} {ns : List Int} {m : Int} (h : DL w (ns.map PyData.int)) (hm : m ∈ ns) (le : ∀ y ∈ ns, m ≤ y) : MinLR [w] (.d (.int m))
theorem ca_minL (hc : X.calm = true) : ClA X (.builtin "min") MinLR := ⟨_, cr_min hc, fun F H ws vs res QH s c hr k => by
  cases hr with
  | @mk w ns m h hm le =>
    obtain ⟨v, A, rfl, r⟩ := cont1 c
    obtain ⟨a, us, rfl, sq, dq⟩ := h.ok s r
    rw [dqs_ints dq] at sq
    refine ⟨a, ns, rfl, sq, List.length_pos_of_mem hm, fun m' hm' le' => ?_⟩
    have : m' = m := Int.le_antisymm (le' m hm) (le m' hm')
    rw [this]
    exact k _ F H (New.pure (by rw [dq_int]))⟩
inductive MaxLR : List W → W → Prop
  | mk {w : W} {ns : List Int} {m : Int} (h : DL w (ns.map PyData.int)) (hm : m ∈ ns) (le : ∀ y ∈ ns, y ≤ m) : MaxLR [w] (.d (.int m))
theorem ca_maxL (hc : X.calm = true) : ClA X (.builtin "max") MaxLR := ⟨_, cr_max hc, fun F H ws vs res QH s c hr k => by
  cases hr with
  | @mk w ns m h hm le =>
    obtain ⟨v, A, rfl, r⟩ := cont1 c
    obtain ⟨a, us, rfl, sq, dq⟩ := h.ok s r
    rw [dqs_ints dq] at sq
    refine ⟨a, ns, rfl, sq, List.length_pos_of_mem hm, fun m' hm' le' => ?_⟩
    have : m' = m := Int.le_antisymm (le m' hm') (le' m hm)
    rw [this]
    exact k _ F H (New.pure (by rw [dq_int]))⟩
/-- lo, lo + c, .. -/
def rngC (lo c : Int) (n : Nat) : List PyData := (List.range n).map fun (i : Nat) => PyData.int (lo + (i : Int) * c)
theorem rngC_get {lo c : Int} {n i : Nat} {d : PyData} (h : (rngC lo c n)[i]? = some d) : i < n ∧ d = .int (lo + (i : Int) * c) := by
  unfold rngC at h
  rw [List.getElem?_map] at h
  by_cases hi : i < n
  · rw [List.getElem?_range hi] at h
    exact ⟨hi, (Option.some.inj h).symm⟩
  · rw [List.getElem?_eq_none (by simpa using hi)] at h
    cases h
theorem rngC_len (lo c : Int) (n : Nat) : (rngC lo c n).length = n := by simp [rngC]
theorem it_rangeC {K : PySem.W.Frag} (lo c : Int) (n : Nat) {G : Hp → Hp → Prop} : DataIt K (Itc lo c n) (rngC lo c n) G :=
  ⟨fun i F H hi _ _ => by rw [rngC_len] at hi; exact hi, fun i F H hi _ _ => by rw [rngC_len] at hi; exact hi, fun i d F H x H' hd _ _ y => by
    obtain ⟨rfl, rfl⟩ := y
    obtain ⟨_, rfl⟩ := rngC_get hd
    exact ⟨F, New.pure (by rw [dq_int])⟩⟩
def iR3 (t : TAA) : TIA := fun ε R => t ε fun xs ε1 => ∃ (i j c : Int) (n : Nat), xs = [.v (.d (.int i)), .v (.d (.int j)), .v (.d (.int c))] ∧ RgC i j c n ∧ R (.v (.d .none)) (rngC i c n) ε1
theorem ai_range3 {tg a b c : Expr} {t : TAA} {p : Pos} (hg : Gl X "range") (hm : X.mg "range" = none) (h : AA X [a, b, c] t) (hs : starEach [a, b, c] X.env = (false, eval a X.env) :: starEach [b, c] X.env := by rfl) (hs2 : ((backTo pos (starEach [b, c] X.env)).any fun x => x.fst) = false := by rfl) : AI X tg (.Call (.Name "range" p) [a, b, c] [] pos) (iR3 t) := by
  obtain ⟨_, pa, qa⟩ := h.ex
  refine ⟨_, pi_range3 hg hm pa hs hs2, fun E F φ ε σ H τ R RH S h k => ?_⟩
  refine qa E F φ ε σ H τ _ _ S h fun xs vs F1 φ1 ε1 H1 S1 ok h1 => ?_
  obtain ⟨i, j, c, n, rfl, hb, h1⟩ := h1
  obtain ⟨e, l⟩ := evTs_v (ws := [.d (.int i), .d (.int j), .d (.int c)]) (τ := τ) ok
  have ct := S1.views ok (ws := [.d (.int i), .d (.int j), .d (.int c)]) rfl
  match vs, l, ct with
  | [v, u, z], _, ⟨⟨A, r⟩, ⟨B, r2⟩, ⟨C, r3⟩, _⟩ =>
    rw [rep_d, dq_int] at r r2 r3
    obtain ⟨φ2, S2⟩ := (Sta.under S1).pushD (x := .none) (v := .non) (by rw [dq_none])
    exact ⟨i, j, c, n, by rw [r.1, r2.1, r3.1], hb, k (.v (.d .none)) .non (.d .none) _ _ F1 φ2 ε1 H1 S2 True.intro rfl (it_rangeC i c _) h1⟩
/-- downwards by one -/
theorem rgC_down {i j : Int} {n : Nat} (hi : -(2 ^ 62) ≤ i ∧ i < 2 ^ 62) (hj : -(2 ^ 62) ≤ j ∧ j < 2 ^ 62) (h : (i - j).toNat = n) : RgC i j (-1) n := h ▸ RgC.neg hi.1 hi.2 hj.1 hj.2
variable {ε : Env} {ts : TAA} {I : EV → List PyData → Env → Prop}
def R3E (xs : List EV) (ε : Env) (I : EV → List PyData → Env → Prop) : Prop := ∃ (i j c : Int) (n : Nat), xs = [.v (.d (.int i)), .v (.d (.int j)), .v (.d (.int c))] ∧ RgC i j c n ∧ I (.v (.d .none)) (rngC i c n) ε
theorem g_iR3 (h : ts ε fun xs ε1 => R3E xs ε1 I) : iR3 ts ε I := h
theorem g_r3E {i j c : Int} (n : Nat) (h1 : RgC i j c n) (h : I (.v (.d .none)) (rngC i c n) ε) : R3E [.v (.d (.int i)), .v (.d (.int j)), .v (.d (.int c))] ε I := ⟨i, j, c, n, rfl, h1, h⟩
end
end Ab

namespace Ab
open PySem PySem.Spec PyProof.Rows L2
/-! ## xs.index(x, i) of a row of texts -/
section
variable {X : Cx}
theorem vals_get {xs : List V} {its : List Value} (h : Vals xs its) : ∀ {j : Nat} {u : Value}, its[j]? = some u → ∃ x, xs[j]? = some x ∧ RelV x u := by
  induction h with
  | nil => intro j u e; simp at e
  | cons r h ih =>
    intro j u e
    cases j with
    | zero => exact ⟨_, rfl, by simp at e; rw [← e]; exact r⟩
    | succ j => exact ih (by simpa using e)
theorem vals_len {xs : List V} {its : List Value} (h : Vals xs its) : its.length = xs.length := by
  induction h with
  | nil => rfl
  | cons r h ih => simp [ih]
theorem mt_index3 : MtR X "list.index" (fun x xs H Q => ∃ (a : Addr) (ys : List Str) (y : Str) (i j : Nat), x = V.ref a ∧ xs = [V.str y, V.int i] ∧ SqL X.K H a (ys.map V.str) ∧ ys[j]? = some y ∧ i ≤ j ∧ (∀ m : Nat, i ≤ m → m < j → ys[m]? ≠ some y) ∧ Q (.int (j : Nat)) H) := by
  intro pins s σ H x xs v us Q I rx rs h
  obtain ⟨a, ys, y, i, j, rfl, rfl, sq, e1, hij, no, q⟩ := h
  obtain ⟨its, vals, pl, few⟩ := I.list sq
  have hv : v = .ref a := rx
  subst hv
  cases rs with
  | cons r1 rs =>
  cases rs with
  | cons r2 rs =>
  cases rs
  obtain ⟨t1, rfl⟩ := r1
  obtain ⟨t2, rfl⟩ := r2
  obtain ⟨o, n, hg, hc, hd, hdat⟩ := pl
  have ho : o = { cls := .type "list", dict := none, data := .seq its.toArray n, slots := o.slots } := by
    cases o
    simp_all
  have len : its.length = ys.length := by rw [vals_len vals, List.length_map]
  have hj : j < ys.length := (List.getElem?_eq_some_iff.mp e1).1
  have item : ∀ (m : Nat) (hm : m < its.toArray.size), ∃ t z, ys[m]? = some z ∧ its.toArray[m] = .str z t := fun m hm => by
    have hm2 : m < its.length := by simpa using hm
    obtain ⟨x, h1, h2⟩ := vals_get vals (List.getElem?_eq_getElem hm2)
    rw [List.getElem?_map] at h1
    obtain ⟨z, h3, rfl⟩ := Option.map_eq_some_iff.mp h1
    obtain ⟨t, h4⟩ := h2
    exact ⟨t, z, h3, by simpa using h4⟩
  have srch : SeqAt.searchFrom (i : Int) its.toArray.size = i := by
    unfold SeqAt.searchFrom
    rw [if_neg (by omega)]
    omega
  refine wpAny_call (codeAny_call_builtin PySem.F.slot_list_index.plain PySem.F.entry_list_index (PySem.F.slot_list_index.check _ _ _ _ _ _ _ _ ⟨o, hg, hc⟩ (PySem.F.args_list_index_3 _ _ _) ?_))
  have big : its.toArray.size < 2 ^ 62 := by
    have : sizeLine < 2 ^ 62 := by decide
    rw [List.size_toArray, vals_len vals]
    omega
  refine SeqAt.list_index3_found a its.toArray n none o.slots (.str y t1) (fun m => decide (ys[m]? = some y)) (i : Int) t2 j (by rw [List.size_toArray]; omega) (by rw [srch]; exact hij) (by rw [List.size_toArray] at big; omega) (by simpa using e1) (fun m h1 h2 h3 => by
    rw [srch] at h2
    simpa using no m h2 h3) X.prog X.w X.A (wants (EP X pins σ Q) X.xe) s ⟨hg.trans (congrArg some ho), fun m hm => ?_, ?_⟩
  · obtain ⟨t, z, e2, e3⟩ := item m hm
    rw [e3, e2]
    have := SeqAt.EqAt.str_str (A := X.A.in1) (s := s) z t y t1
    rwa [show (z == y) = decide (some z = some y) by
      by_cases e : z = y
      · simp [e]
      · simp [e]] at this
  · exact ⟨.int (j : Nat), H, I.kept (fun b u z => z), ⟨_, rfl⟩, q⟩
inductive Index3R : W → List W → W → Prop
  | S {w : W} {xs : List Str} {x : Str} {i j : Nat} (h : DL w (xs.map PyData.str)) (e : xs[j]? = some x) (hij : i ≤ j) (no : ∀ m : Nat, i ≤ m → m < j → xs[m]? ≠ some x) : Index3R w [.d (.str x), .d (.int (i : Nat))] (.d (.int (j : Nat)))
theorem rd_index3 : RdA X "list.index" Index3R := ⟨_, mt_index3, fun F H w ws v vs res QH s c hr k => by
  cases hr with
  | @S xs x i j h e hij no =>
    obtain ⟨⟨A, r⟩, c2⟩ := (show (∃ A, Rep X.K F H w v A) ∧ Cont X.K F H [.d (.str x), .d (.int (i : Nat))] vs from c)
    obtain ⟨v2, v3, A2, A3, rfl, r2, r3⟩ := cont2 c2
    rw [rep_d, dq_str] at r2
    rw [rep_d, dq_int] at r3
    obtain ⟨a, us, rfl, sq, dq⟩ := h.ok s r
    rw [dqs_strs dq] at sq
    exact ⟨a, xs, x, i, j, rfl, by rw [r2.1, r3.1], sq, e, hij, no, k _ F H (New.pure (by rw [dq_int]))⟩⟩
/-! ## a for over a list of a name of the def's own: the name is not stored to meanwhile -/
theorem as_pin {bp : List Nat} {i : Nat} {st : Stmt} {t : TSA} (h : AS X (i :: bp) st t) : AS X bp st t := by
  obtain ⟨tH, p, q⟩ := h.ex
  refine ⟨tH, p, fun E F φ ε σ H τ D DH he S ht f => ?_⟩
  have un : ∀ {F φ ε σ' H τ}, Sta X.K { E with st0 := σ, bp := i :: bp } F φ ε σ' H τ → Sta X.K E F φ ε σ' H τ := fun S' =>
    { ext := S'.ext, fnew := S'.fnew, sub := S'.sub, old := S'.old, pre := S'.pre, own := S'.own, len := S'.len, slot := S'.slot, tmp := S'.tmp
      fix := fun j hj => (S'.fix j (List.mem_cons_of_mem _ (he ▸ hj))).trans (S.fix j hj) }
  have pinned : Sta X.K { E with st0 := σ, bp := i :: bp } F φ ε σ H τ :=
    { ext := S.ext, fnew := S.fnew, sub := S.sub, old := S.old, pre := S.pre, own := S.own, len := S.len, slot := S.slot, tmp := S.tmp
      fix := fun j hj => rfl }
  exact q { E with st0 := σ, bp := i :: bp } F φ ε σ H τ D DH rfl pinned ht ⟨fun F φ ε σ H S h => f.nx F φ ε σ H (un S) h, fun rv v F φ ε σ H S ok h => f.rt rv v F φ ε σ H (un S) ok h, fun F φ ε σ H S h => f.bk F φ ε σ H (un S) h, fun F φ ε σ H S h => f.ct F φ ε σ H (un S) h⟩
end
end Ab

namespace Ab
open PySem PySem.Spec PyProof.Rows L2
/-! ## len(set(xs)) of a row of texts -/
def memB {κ : Type} [DecidableEq κ] (l : List κ) (k : κ) : Bool := decide (k ∈ l)
/-- how many different ones a row brings, behind those that have been seen -/
def kinds {κ : Type} [DecidableEq κ] : List κ → List κ → Nat
  | _, [] => 0
  | seen, x :: r => (if memB seen x = true then 0 else 1) + kinds (seen ++ [x]) r
section
variable {prog : Program} {w : World} {A : Around} {E : Value → Shared → Prop} {s : Shared}
theorem set_keep {K : Type} [DecidableEq K] {knd : PySem.KeyKind prog w K} {h h' : Heap} {a : Addr} {S : K → Bool} {n : Nat} (H : Heap.SetOf knd h a S n) (e : ∀ o, h.get? a = some o → h'.get? a = some o) : Heap.SetOf knd h' a S n := by
  obtain ⟨o, es, ep, t, h1, r⟩ := H
  exact ⟨o, es, ep, t, e o h1, r⟩
theorem set_add {K : Type} [DecidableEq K] {knd : PySem.KeyKind prog w K} {a : Addr} {S : K → Bool} {n : Nat} {k : K} {x : Value} {Q : Bool → Shared → Prop} (hk : knd.is k x = true) (sc : x.scannable = true) (H : Heap.SetOf knd s.heap a S n) (few : n + 1 < scanBound)
    (q : ∀ h' : Heap, Heap.SameBut a s.heap h' → Heap.SetOf knd h' a (fun k' => S k' || decide (k' = k)) (if S k = true then n else n + 1) → Q (!S k) { s with heap := h', toks := s.toks + 1 }) : wpAny (model prog w) A (setAdd a x) Q E s := by
  unfold setAdd
  refine wpAny_holding (wpAny_bind (knd.pyHash hk ?_))
  exact wpAny_setAddHashed_of hk sc H few q
theorem codeAny_set_loopT {κ : Type} [DecidableEq κ] {knd : PySem.KeyKind prog w κ} {I : Addr} {fp wr : List Addr} {G : Array GenState → Array GenState → Prop} {n : Nat} {P : Nat → Value → Prop} {St : Nat → Shared → Prop} {R : Result → Shared → Prop}
    (W : WalksS prog w A.in1 I fp wr G n P St) (S : Addr) (nf : S ∉ fp) (xs : List κ) (hx : xs.length = n) (few : n + 1 < scanBound) (hP : ∀ (i : Nat) (v : Value), P i v → ∃ x, xs[i]? = some x ∧ knd.is x v = true ∧ v.scannable = true) :
    ∀ (k i c : Nat) (s : Shared), n - i = k → i ≤ n → St i s → Heap.SetOf knd s.heap S (memB (xs.take i)) c → c + kinds (xs.take i) (xs.drop i) = kinds [] xs → c ≤ i →
      (∀ s', Moved (S :: wr) G s s' → Heap.SetOf knd s'.heap S (memB xs) (kinds [] xs) → R (.ok (.ret .none)) s') →
      codeAny (model prog w) A (Code.builtin "set.update.loop" ⟨[.ref S, .ref I], []⟩) R s := by
  intro k
  induction k with
  | zero =>
    intro i c s hk hi st H hc hci q
    have e : i = n := by omega
    subst e
    refine codeAny_builtin F.entry_set_update_loop ?_
    rw [Around.under_plainId F.plain_set_update_loop]
    change wpAny _ A.in1 (pyNext (.ref I) >>= _) _ _ s
    refine wpAny_bind (W.done s _ _ st fun s' mv => wpAny_pure (q s' ⟨fun b o hb z => mv.heap b o (fun z2 => hb (List.mem_cons_of_mem _ z2)) z, mv.gens, mv.drawn, mv.os, mv.toks⟩ ?_))
    have e1 : xs.take i = xs := List.take_of_length_le (by omega)
    have e2 : xs.drop i = [] := List.drop_eq_nil_iff.mpr (by omega)
    rw [e1, e2] at hc
    rw [e1] at H
    have hc : c = kinds [] xs := hc
    rw [← hc]
    exact set_keep H fun o z => mv.heap S o (fun z2 => nf (W.sub S z2)) z
  | succ k ih =>
    intro i c s hk hi st H hc hci q
    refine codeAny_builtin F.entry_set_update_loop ?_
    rw [Around.under_plainId F.plain_set_update_loop]
    change wpAny _ A.in1 (pyNext (.ref I) >>= _) _ _ s
    refine wpAny_bind (W.item i s _ _ (by omega) st fun v s' pv st' mv => ?_)
    obtain ⟨x, ex, isx, scx⟩ := hP i v pv
    have nw : S ∉ wr := fun z2 => nf (W.sub S z2)
    have H' := set_keep H fun o z => mv.heap S o nw z
    change wpAny _ A.in1 (holding [v] (setAdd S v) >>= _) _ _ s'
    refine wpAny_bind (wpAny_holding (set_add (k := x) isx scx H' (by omega) fun h' same H2 => ?_))
    have hd : xs.drop i = x :: xs.drop (i + 1) := by
      have hi2 := (List.getElem?_eq_some_iff.mp ex).1
      rw [List.drop_eq_getElem_cons hi2]
      congr 1
      exact (List.getElem?_eq_some_iff.mp ex).2
    have ht : xs.take (i + 1) = xs.take i ++ [x] := by rw [List.take_succ, ex]; rfl
    rw [hd] at hc
    have hc : c + ((if memB (xs.take i) x = true then 0 else 1) + kinds (xs.take i ++ [x]) (xs.drop (i + 1))) = kinds [] xs := hc
    rw [← ht] at hc
    have mv2 : Moved (S :: wr) G s { s' with heap := h', toks := s'.toks + 1 } := ⟨fun b o hb z => by
      have z1 : b ≠ S := fun e => hb (e ▸ List.mem_cons_self)
      exact (same.2 b z1).trans (mv.heap b o (fun z2 => hb (List.mem_cons_of_mem _ z2)) z), mv.gens, mv.drawn, mv.os, Nat.le_trans mv.toks (Nat.le_succ _)⟩
    have fe : (fun k' => memB (xs.take i) k' || decide (k' = x)) = memB (xs.take (i + 1)) := by
      funext k'
      unfold memB
      rw [ht]
      simp
    rw [fe] at H2
    refine wpAny_pure ⟨plainId_quiet F.plain_set_update_loop _, ih (i + 1) _ _ (by omega) (by omega) (W.frame (i + 1) s' h' _ st' (Nat.le_succ _) fun b hb o z => (same.2 b (fun e => nf (e ▸ hb))).trans z) H2 (by
      cases hz : memB (xs.take i) x with
      | true => rw [hz, if_pos rfl] at hc; rw [if_pos rfl]; omega
      | false => rw [hz, if_neg (by decide)] at hc; rw [if_neg (by decide)]; omega) (by split <;> omega) fun s'' mv3 H3 => q s'' ?_ H3⟩
    exact ⟨fun b o hb z => mv3.heap b o hb (mv2.heap b o hb z), W.gtrans _ _ _ mv2.gens mv3.gens, mv3.drawn.trans mv2.drawn, mv3.os.trans mv2.os, Nat.le_trans mv2.toks mv3.toks⟩
/-- set(xs) -/
theorem call_set_texts {κ : Type} [DecidableEq κ] {knd : PySem.KeyKind prog w κ} {l : Addr} {items : Array Value} {xs : List κ} {Q : Value → Shared → Prop} (hh : A.handled = none) (hl : s.heap.IsList l items) (hx : ∀ (i : Nat) (v : Value), items[i]? = some v → ∃ x, xs[i]? = some x ∧ knd.is x v = true ∧ v.scannable = true) (len : items.size = xs.length) (few : xs.length + 1 < scanBound)
    (q : ∀ (h' : Heap) (tk : Nat), Heap.SetOf knd h' s.heap.objs.size (memB xs) (kinds [] xs) → (∀ (b : Addr) (o : Obj), s.heap.get? b = some o → h'.get? b = some o) → Q (.ref s.heap.objs.size) { s with heap := h', toks := tk }) :
    wpAny (model prog w) A (call (.type "set") [.ref l]) Q E s := by
  obtain ⟨c, tl, mro⟩ := F.called_set.mro
  refine wpAny_call (codeAny_of_tree ?_)
  change wpAny _ _ (again (Code.builtin "type.__call__" ⟨[.type "set", .ref l], []⟩)) _ _ s
  refine wpAny_pure ⟨Code.quiet_builtin _ (by decide +kernel), codeAny_builtin F.entry_type_call ?_⟩
  rw [Around.under_plain (weight_type_call_type "set" _ _) rfl]
  unfold Builtin.«type.__call__»
  dsimp only
  rw [if_neg (by rw [F.called_set.notType]; decide), if_neg (by rw [F.called_set.canCreate]; decide)]
  rw [F.typeCall_set_1, mro, F.called_set.made]
  refine wpAny_bind (wpAny_pure (wpAny_bind (wpAny_pure ?_)))
  rw [if_neg (by simp)]
  refine wpAny_bind (wpAny_pure ?_)
  dsimp only
  refine wpAny_bind (wpAny_pure (wpAny_bind (wpAny_holding (wpAny_call (code_set_new_1 _ fun led => ?_)))))
  have ti : (Shared.TypeIs { s with heap := s.heap.push { cls := .type "set", data := .set #[] 0 (SetTable.fresh 0 0 led) } } (.ref s.heap.objs.size) "set") := ⟨_, Heap.get?_push_size _ rfl, rfl⟩
  refine wpAny_bind (wpAny_isInstance (b := true) ti F.called_set.sub ?_)
  rw [if_neg (by decide)]
  refine wpAny_bind (wpAny_holding (wpAny_callSpecial?_slot ti F.called_set.init (wpAny_call (codeAny_call_builtin F.called_set.init.plain F.entry_set_init (check_set_init_1 ti ?_)))))
  unfold Builtin.«set.__init__»
  rw [show noKeywords "set" (⟨[.ref s.heap.objs.size, .ref l], []⟩ : Args) = pure () from rfl]
  refine wpAny_bind (wpAny_pure ?_)
  dsimp only
  unfold typeNameOfCut shownTypeOf
  refine wpAny_bind (wpAny_bind (wpAny_bind (wpAny_typeOf ti ?_)))
  rw [if_neg (by decide)]
  refine wpAny_pure ?_
  change wpAny _ _ (typeName (.type "set")) _ _ _
  unfold typeName
  refine wpAny_pure ?_
  refine wpAny_bind ?_
  rw [show ∀ x : String, checkCount x 0 1 [Value.ref l].length = pure () from fun x => rfl]
  refine wpAny_pure (wpAny_bind (wpAny_pure (wpAny_bind ?_)))
  unfold setUsed setState
  refine wpAny_bind (wpAny_bind (wpAny_load (Heap.get?_push_size _ rfl) ?_))
  dsimp only
  rw [if_neg (by cases led <;> decide)]
  refine wpAny_pure (wpAny_pure ?_)
  rw [if_neg (by cases led <;> decide)]
  refine wpAny_bind ?_
  unfold Builtin.Frozenset.updateFrom
  obtain ⟨o, ho, hoc, n, hod⟩ := hl
  have hp := Heap.lt_size ho
  have ho1 : (s.heap.push { cls := .type "set", data := .set #[] 0 (SetTable.fresh 0 0 led) }).get? l = some o := Heap.get?_push_of_some _ ho
  have tl1 : (Shared.TypeIs { s with heap := s.heap.push { cls := .type "set", data := .set #[] 0 (SetTable.fresh 0 0 led) } } (.ref l) "list") := ⟨o, ho1, hoc⟩
  unfold Builtin.Frozenset.isAnySet orM
  refine wpAny_bind (wpAny_bind (wpAny_isInstance tl1 F.sub_list_set ?_))
  change wpAny _ _ (isInstance (.ref l) (.type "frozenset")) _ _ _
  refine wpAny_isInstance tl1 F.sub_list_frozenset ?_
  rw [if_neg (by decide)]
  refine wpAny_bind (wpAny_typeOf tl1 ?_)
  rw [if_neg (by decide)]
  refine wpAny_bind (wpAny_pyIter_list ⟨o, ho1, hoc, n, hod⟩ (wpAny_bind (wpAny_runValue ?_)))
  have nel : l ≠ s.heap.objs.size := Nat.ne_of_lt hp
  have put : ∀ b u, (s.heap.push { cls := .type "set", data := .set #[] 0 (SetTable.fresh 0 0 led) }).get? b = some u → ((s.heap.push { cls := .type "set", data := .set #[] 0 (SetTable.fresh 0 0 led) }).push { cls := .type "list_iterator", data := .fields #[.ref l, .int 0 0] }).get? b = some u := fun b u z => Heap.get?_push_of_some _ z
  have hI : (s.heap.push { cls := .type "set", data := .set #[] 0 (SetTable.fresh 0 0 led) }).objs.size = s.heap.objs.size + 1 := Heap.size_push ..
  refine codeAny_set_loopT (Walks.list (A := A.in1.in1.in1) hh (s.heap.push { cls := .type "set", data := .set #[] 0 (SetTable.fresh 0 0 led) }).objs.size l (by rw [hI]; exact Nat.ne_of_lt (Nat.lt_succ_of_lt hp)) items).toS s.heap.objs.size (fun z => by
    rcases List.mem_cons.mp z with z | z
    · rw [hI] at z
      exact absurd z (Nat.ne_of_lt (Nat.lt_succ_self _))
    · exact absurd (List.mem_singleton.mp z).symm nel) xs len.symm (by omega) hx items.size 0 0 _ (by omega) (Nat.zero_le _) ⟨⟨_, Heap.get?_push_size _ rfl, rfl, rfl⟩, ⟨o, put _ _ ho1, hoc, n, hod⟩⟩ ?_ (by rw [Nat.zero_add]; rfl) (Nat.le_refl _) fun s' mv H => ?_
  · refine set_keep (h := s.heap.push { cls := .type "set", data := .set #[] 0 (SetTable.fresh 0 0 led) }) ?_ (put _)
    obtain ⟨x, es, ep, t, h1, h2, h3, h4, h5⟩ := @setObjOf_fresh prog w κ _ instBEqOfDecidableEq _ knd led
    refine ⟨_, es, ep, t, Heap.get?_push_size _ rfl, x, h1, h2, h3, ?_, h5, h4⟩
    rw [h4]
    decide
  · refine wpAny_pure (wpAny_pure ?_)
    change wpAny _ A.in1 (if (Value.none != Value.none) = true then _ else _) _ _ s'
    rw [if_neg (by decide)]
    refine wpAny_pure ?_
    have old : ∀ (b : Addr) (o : Obj), s.heap.get? b = some o → s'.heap.get? b = some o := fun b o z => by
      have lt := Heap.lt_size z
      refine mv.heap b o (fun z2 => ?_) (put b o (Heap.get?_push_of_some _ z))
      rcases List.mem_cons.mp z2 with e | z2
      · exact absurd e (Nat.ne_of_lt lt)
      · have e := List.mem_singleton.mp z2
        rw [hI] at e
        exact absurd e (Nat.ne_of_lt (Nat.lt_succ_of_lt lt))
    have h1 := mv.gens
    have h2 := mv.drawn
    have h3 := mv.os
    have e : s' = { s with heap := s'.heap, toks := s'.toks } := by
      cases s'
      cases s
      simp_all
    have fin := q s'.heap s'.toks H old
    rw [← e] at fin
    exact fin
end
section
variable {X : Cx}
/-- set(texts) as an object -/
theorem cr_setT (hc : X.calm = true) : CallR X (.type "set") (fun xs H Q => ∃ (l : Addr) (ys : List Str), xs = [V.ref l] ∧ SqL X.K H l (ys.map V.str) ∧ ys.length + 1 < scanBound ∧ ∀ a, H a = none → Q (V.ref a) (upd H a (SetK X.prog X.w a (memB (ys.map (Sum.inr : Str → Key))) (kinds [] (ys.map (Sum.inr : Str → Key)))))) := by
  intro pins s σ H xs us Q I rs h
  obtain ⟨l, ys, rfl, sq, few, q⟩ := h
  cases rs with
  | cons r1 rs =>
  cases rs
  have e : _ = Value.ref l := r1
  subst e
  obtain ⟨its, vals, ⟨o, n, hg, hcl, _, hdat⟩, big⟩ := I.list sq
  have len : its.length = ys.length := by rw [vals_len vals, List.length_map]
  refine call_set_texts (knd := mixKind X.prog X.w) (xs := ys.map (Sum.inr : Str → Key)) (items := its.toArray) (I.ok.hd hc) ⟨o, hg, hcl, n, hdat⟩ (fun i v e => ?_) (by rw [List.size_toArray, List.length_map, len]) (by rw [List.length_map]; exact few) fun h' tk so old => ?_
  · have e : its[i]? = some v := by simpa using e
    obtain ⟨x, h1, h2⟩ := vals_get vals e
    rw [List.getElem?_map] at h1
    obtain ⟨y, h3, rfl⟩ := Option.map_eq_some_iff.mp h1
    obtain ⟨t, rfl⟩ := h2
    refine ⟨Sum.inr y, by rw [List.getElem?_map, h3]; rfl, ?_, rfl⟩
    show (y == y) = true
    exact beq_self_eq_true y
  · refine ⟨.ref s.heap.objs.size, _, I.laid (t' := tk) old (Nat.le_refl _) (setK_new so), rfl, q _ (I.hok.fresh (Nat.le_refl _))⟩
theorem cr_lenK : CallR X (.builtin "len") (fun xs H Q => ∃ (a : Addr) (S : Key → Bool) (n : Nat), xs = [V.ref a] ∧ H a = some (SetK X.prog X.w a S n) ∧ Q (V.int (n : Nat)) H) := by
  intro pins s σ H xs us Q I rs h
  obtain ⟨a, S, n, rfl, ha, q⟩ := h
  cases rs with
  | cons r1 rs =>
  cases rs
  have e : _ = Value.ref a := r1
  subst e
  have ok := I.hok a _ ha
  obtain ⟨o, es, ep, t, h1, h2, h3, h4, h5, h6, h7, h8⟩ := (show Heap.SetOf (mixKind X.prog X.w) s.heap a S n from (by unfold SetK ObjOk at ok; exact ok.1))
  refine call_len_set h1 h2 h3 h7 ?_ ⟨.int (n : Nat), H, I.kept fun b u z => z, ⟨_, by rw [h8]⟩, q⟩
  have : scanBound = 4096 := rfl
  omega
variable {te : TEA} {a : Expr} {p p2 q pos : Pos} {K : PySem.W.Frag} {E : Ent} {F H : Hp} {φ : Addr → Option Nat} {ε : Env} {σ : L2.St} {τ : List (W × V)}
/-- an object that nothing leads to any more -/
theorem Sta.junk1 {b0 : Addr} {o : HO} (S : Sta K E F φ ε σ H τ) (hb : H b0 = none) : Sta K E F φ ε σ (upd H b0 o) τ := by
  have ne : ∀ {b u}, H b = some u → b ≠ b0 := fun z e => by rw [e, hb] at z; cases z
  refine S.step (R := fun _ => True) ⟨Same.refl _, fun b h => .inl h, fun b u z => ?_, fun b z => ?_, fun b u z _ => ?_, fun b i z _ => ?_, fun b i z => ?_⟩ S.len rfl S.fix (fun i w z => .inl ⟨True.intro, z, rfl⟩) fun j w v z => .inl ⟨True.intro, z⟩
  · have z := S.sub b u z
    rw [upd_ne (ne z)]
    exact z
  · by_cases e : b = b0
    · rw [e]; exact hb
    · rwa [upd_ne e] at z
  · rw [upd_ne (ne z)]
    exact z
  · obtain ⟨_, h2, _⟩ := S.own b i z
    have : b ≠ b0 := fun e => h2 (e ▸ hb)
    exact ⟨upd_ne this, z⟩
  · obtain ⟨h1, h2, _⟩ := S.own b i z
    have : b ≠ b0 := fun e => h2 (e ▸ hb)
    exact ⟨h1, by rw [upd_ne this]; exact h2, .inl ⟨i, z⟩⟩
theorem kinds_inr : ∀ (ys seen : List Str), kinds (seen.map (Sum.inr : Str → Key)) (ys.map (Sum.inr : Str → Key)) = kinds seen ys
  | [], _ => rfl
  | y :: ys, seen => by
    show (if memB (seen.map Sum.inr) (Sum.inr y : Key) = true then 0 else 1) + kinds (seen.map Sum.inr ++ [Sum.inr y]) (ys.map Sum.inr) = (if memB seen y = true then 0 else 1) + kinds (seen ++ [y]) ys
    have := kinds_inr ys (seen ++ [y])
    rw [List.map_append, List.map_singleton] at this
    rw [this]
    congr 2
    unfold memB
    simp
def tLenSetA (te : TEA) : TEA := fun ε Q => te ε fun x ε1 => ∃ (w : W) (ys : List Str) (ε2 : Env), cnt ε1 x = some w ∧ DL w (ys.map PyData.str) ∧ bck x ε1 = some ε2 ∧ ys.length ≤ 4000 ∧ Q (.v (.d (.int (kinds [] ys : Nat)))) ε2
theorem ae_lenSet (hc : X.calm = true) (hg : Gl X "len") (hm : X.mg "len" = none) (hg2 : Gl X "set") (hm2 : X.mg "set" = none) (h : AE X a te) (hs : starEach [a] X.env = [(false, eval a X.env)] := by rfl)
    (hs2 : starEach [Expr.Call (.Name "set" p2) [a] [] q] X.env = [(false, eval (Expr.Call (.Name "set" p2) [a] [] q) X.env)] := by rfl) : AE X (.Call (.Name "len" p) [.Call (.Name "set" p2) [a] [] q] [] pos) (tLenSetA te) := by
  obtain ⟨_, pe, qe⟩ := h.ex
  refine ⟨_, pe_callB (es := []) cr_lenK hg hm rfl (pa_cons (pe_callTy (es := []) (cr_setT hc) hg2 hm2 rfl (pa_cons pe pa_nil hs) (by decide) (by decide) hs) pa_nil hs2) (by decide) (by decide) hs2, fun E F φ ε σ H τ Q QH S h k => ?_⟩
  refine qe E F φ ε σ H τ _ _ S h fun x v F1 φ1 ε1 H1 S1 ok1 h1 => ?_
  obtain ⟨w, ys, ε2, c, dl, b, few, h2⟩ := h1
  obtain ⟨A, r, _, _⟩ := S1.view ok1 c
  obtain ⟨l, us, rfl, sq, dq⟩ := dl.ok S1.sub r
  rw [dqs_strs dq] at sq
  obtain ⟨φ2, S2⟩ := S1.back ok1 b
  refine ⟨l, ys, rfl, sq, (by have : scanBound = 4096 := rfl; omega), fun a0 ha => ?_⟩
  refine ⟨a0, _, _, rfl, upd_same, ?_⟩
  rw [show (kinds [] (ys.map (Sum.inr : Str → Key))) = kinds [] ys from kinds_inr ys []]
  obtain ⟨φ3, S3⟩ := (S2.junk1 ha).pushD (x := .int (kinds [] ys : Nat)) (v := .int (kinds [] ys : Nat)) (by rw [dq_int])
  exact k (.v _) _ _ φ3 ε2 _ S3 True.intro h2
/-! stepping -/
variable {ε : Env} {Q : EV → Env → Prop}
def LsE (x : EV) (ε1 : Env) (Q : EV → Env → Prop) : Prop := ∃ (w : W) (ys : List Str) (ε2 : Env), cnt ε1 x = some w ∧ DL w (ys.map PyData.str) ∧ bck x ε1 = some ε2 ∧ ys.length ≤ 4000 ∧ Q (.v (.d (.int (kinds [] ys : Nat)))) ε2
theorem g_ls (h : te ε fun x ε1 => LsE x ε1 Q) : tLenSetA te ε Q := h
theorem g_lsE {x : EV} {w : W} {ys : List Str} {ε2 : Env} (h1 : cnt ε x = some w) (h2 : DL w (ys.map PyData.str)) (h3 : bck x ε = some ε2) (h4 : ys.length ≤ 4000) (k : Q (.v (.d (.int (kinds [] ys : Nat)))) ε2) : LsE x ε Q := ⟨w, ys, ε2, h1, h2, h3, h4, k⟩
/-! how many kinds -/
theorem kinds_le : ∀ (ys seen : List Str), kinds seen ys ≤ ys.length
  | [], _ => Nat.le_refl _
  | y :: ys, seen => by
    have := kinds_le ys (seen ++ [y])
    show (if memB seen y = true then 0 else 1) + _ ≤ ys.length + 1
    split <;> omega
end
end Ab

namespace Ab
open PySem PySem.Spec PyProof.Rows L2
section
variable {X : Cx} {te : TEA} {a : Expr} {p p2 q pos : Pos} {ε : Env} {Q : EV → Env → Prop}
/-! ## list(range(n)) -/
def tLsRg (te : TEA) : TEA := fun ε Q => te ε fun x ε1 => ∃ n : Nat, x = .v (.d (.int n)) ∧ n ≤ 16777216 ∧ Q (.v (.lst ((rngD 0 n).map W.d))) ε1
theorem ae_lsRg (hc : X.calm = true) (hg : Gl X "list") (hm : X.mg "list" = none) (hg2 : Gl X "range") (hm2 : X.mg "range" = none) (h : AE X a te) (hs : starEach [a] X.env = [(false, eval a X.env)] := by rfl)
    (hs2 : starEach [Expr.Call (.Name "range" p2) [a] [] q] X.env = [(false, eval (Expr.Call (.Name "range" p2) [a] [] q) X.env)] := by rfl) : AE X (.Call (.Name "list" p) [.Call (.Name "range" p2) [a] [] q] [] pos) (tLsRg te) := by
  obtain ⟨_, pe, qe⟩ := h.ex
  refine ⟨_, pe_listRg hc hg hm (prg_1 hg2 hm2 pe hs) hs2, fun E F φ ε σ H τ Q QH S h k => ?_⟩
  refine qe E F φ ε σ H τ _ _ S h fun x v F1 φ1 ε1 H1 S1 ok1 h1 => ?_
  obtain ⟨n, rfl, hn, h2⟩ := h1
  obtain ⟨r, S2⟩ := one_v S1
  rw [dq_int] at r
  refine ⟨(n : Int), r, ⟨by omega, by omega, by omega, by omega, ?_⟩, fun b hb => ?_⟩
  · rw [Int.sub_zero, Int.toNat_natCast]
    exact Nat.le_trans hn (by decide)
  · have dq : Dqs X.K F1 (rngD 0 n) (rgV 0 n) := by
      unfold rngD rgV
      rw [Int.sub_zero, Int.toNat_natCast]
      induction (List.range n) with
      | nil => rw [List.map_nil, List.map_nil, dqs_nil]
      | cons i is ih => rw [List.map_cons, List.map_cons, dqs_cons]; exact ⟨_, _, rfl, by rw [dq_int], ih⟩
    obtain ⟨φ3, S3⟩ := S2.new (New.lst hb dq)
    exact k (.v _) _ _ φ3 ε1 _ S3 True.intro h2
def LrE (x : EV) (ε1 : Env) (Q : EV → Env → Prop) : Prop := ∃ n : Nat, x = .v (.d (.int n)) ∧ n ≤ 16777216 ∧ Q (.v (.lst ((rngD 0 n).map W.d))) ε1
theorem g_lr (h : te ε fun x ε1 => LrE x ε1 Q) : tLsRg te ε Q := h
theorem g_lrE {n : Nat} (h : n ≤ 16777216) (k : Q (.v (.lst ((rngD 0 n).map W.d))) ε) : LrE (.v (.d (.int n))) ε Q := ⟨n, rfl, h, k⟩
/-! ## x is None, where x may be a list -/
inductive IsNXR : W → W → W → Prop
  | d {x : PyData} : IsNXR (.d x) (.d .none) (.d (.bool (isNon x)))
  | l {ws : List W} : IsNXR (.lst ws) (.d .none) (.d (.bool false))
theorem oa_isNX : OpA X (compareOp .Is) IsNXR := ⟨_, op_isN, fun F H wx wy vx vy A B res QH s rx ry hr k => by
  cases hr with
  | d =>
    rw [rep_d] at rx ry
    rw [dq_none] at ry
    exact ⟨ry.1, by rw [dec_non rx.1]; exact k _ F H (New.pure (by rw [dq_bool]))⟩
  | l =>
    rw [rep_d, dq_none] at ry
    rw [rep_lst] at rx
    obtain ⟨b, us, B', rfl, _⟩ := rx
    exact ⟨ry.1, by rw [show decide (V.ref b = V.non) = false by simp]; exact k _ F H (New.pure (by rw [dq_bool]))⟩⟩
inductive NotNXR : W → W → W → Prop
  | d {x : PyData} : NotNXR (.d x) (.d .none) (.d (.bool (!isNon x)))
  | l {ws : List W} : NotNXR (.lst ws) (.d .none) (.d (.bool true))
theorem oa_notNX : OpA X (compareOp .IsNot) NotNXR := ⟨_, op_notN, fun F H wx wy vx vy A B res QH s rx ry hr k => by
  cases hr with
  | d =>
    rw [rep_d] at rx ry
    rw [dq_none] at ry
    exact ⟨ry.1, by rw [dec_non rx.1]; exact k _ F H (New.pure (by rw [dq_bool]))⟩
  | l =>
    rw [rep_d, dq_none] at ry
    rw [rep_lst] at rx
    obtain ⟨b, us, B', rfl, _⟩ := rx
    exact ⟨ry.1, by rw [show (!decide (V.ref b = V.non)) = true by simp]; exact k _ F H (New.pure (by rw [dq_bool]))⟩⟩
end
end Ab

namespace Ab
open PySem PySem.Spec PyProof.Rows L2
/-! ## tuples of own things -/
section
variable {K : PySem.W.Frag} {E : Ent} {F H : Hp} {φ : Addr → Option Nat} {ε : Env} {σ : L2.St} {τ : List (W × V)}
/-- the objects of a row of contents, content by content -/
theorem Reps.split : ∀ {ws : List W} {vs : List V} {A : List Addr}, Reps K F H ws vs A → ∃ Bs : List (List Addr), A = Bs.flatten ∧ Bs.length = ws.length ∧ vs.length = ws.length ∧ ∀ (i : Nat) (w : W) (v : V), ws[i]? = some w → vs[i]? = some v → ∃ C, Bs[i]? = some C ∧ Rep K F H w v C
  | [], vs, A, r => by
    rw [reps_nil] at r
    obtain ⟨rfl, rfl⟩ := r
    exact ⟨[], rfl, rfl, rfl, fun i w v h _ => by simp at h⟩
  | w :: ws, vs, A, r => by
    rw [reps_cons] at r
    obtain ⟨v, vr, B, C, rfl, rfl, r1, r2⟩ := r
    obtain ⟨Bs, rfl, h1, h2, h3⟩ := Reps.split r2
    refine ⟨B :: Bs, rfl, by simp [h1], by simp [h2], fun i x u e1 e2 => ?_⟩
    cases i with
    | zero => simp at e1 e2; subst e1; subst e2; exact ⟨B, rfl, r1⟩
    | succ i => exact h3 i x u (by simpa using e1) (by simpa using e2)
theorem flat_at {Bs : List (List Addr)} (nd : Bs.flatten.Nodup) {i j : Nat} {C D : List Addr} {a : Addr} (h1 : Bs[i]? = some C) (h2 : Bs[j]? = some D) (ha : a ∈ C) (hb : a ∈ D) : i = j := by
  induction Bs generalizing i j with
  | nil => simp at h1
  | cons B Bs ih =>
    rw [List.flatten_cons, List.nodup_append] at nd
    cases i with
    | zero =>
      cases j with
      | zero => rfl
      | succ j =>
        simp at h1 h2
        subst h1
        exact absurd rfl (nd.2.2 a ha a (List.mem_flatten.mpr ⟨D, List.mem_of_getElem? h2, hb⟩))
    | succ i =>
      cases j with
      | zero =>
        simp at h1 h2
        subst h2
        exact absurd rfl (nd.2.2 a hb a (List.mem_flatten.mpr ⟨C, List.mem_of_getElem? h1, ha⟩))
      | succ j => exact congrArg (· + 1) (ih (i := i) (j := j) nd.2.1 (by simpa using h1) (by simpa using h2))
theorem flat_in {Bs : List (List Addr)} {i : Nat} {C : List Addr} {a : Addr} (h1 : Bs[i]? = some C) (ha : a ∈ C) : a ∈ Bs.flatten := List.mem_flatten.mpr ⟨C, List.mem_of_getElem? h1, ha⟩
theorem flat_nd {Bs : List (List Addr)} (nd : Bs.flatten.Nodup) {i : Nat} {C : List Addr} (h1 : Bs[i]? = some C) : C.Nodup := by
  induction Bs generalizing i with
  | nil => simp at h1
  | cons B Bs ih =>
    rw [List.flatten_cons, List.nodup_append] at nd
    cases i with
    | zero => simp at h1; subst h1; exact nd.1
    | succ i => exact ih nd.2.1 (by simpa using h1)
/-- the topmost row, a tuple, becomes the rows of what it holds -/
theorem Sta.burst {ws : List W} {v : V} (S : Sta K E F φ ε σ H (τ ++ [(.tup ws, v)])) : ∃ a vs φ', v = .ref a ∧ H a = some (.tup vs) ∧ vs.length = ws.length ∧ Sta K E F φ' ε σ H (τ ++ ws.zip vs) := by
  obtain ⟨A, r, nd, hA⟩ := S.tmp τ.length (.tup ws) v getE_last
  have S0 : Sta K E F φ ε σ H τ := Sta.drop S
  rw [rep_tup] at r
  obtain ⟨a, vs, B, rfl, rfl, ha, rs⟩ := r
  obtain ⟨Bs, rfl, l1, l2, at'⟩ := rs.split
  have ndB := (List.nodup_cons.mp nd).2
  have naB := (List.nodup_cons.mp nd).1
  let φ' : Addr → Option Nat := fun b => match Bs.findIdx? (fun C => decide (b ∈ C)) with
    | some i => some (ε.length + τ.length + i)
    | none => if b = a then none else φ b
  have inB : ∀ {i : Nat} {C : List Addr} {b : Addr}, Bs[i]? = some C → b ∈ C → φ' b = some (ε.length + τ.length + i) := fun {i C b} h1 hb => by
    have : Bs.findIdx? (fun C => decide (b ∈ C)) = some i := by
      rw [List.findIdx?_eq_some_iff_getElem]
      obtain ⟨hi, e⟩ := List.getElem?_eq_some_iff.mp h1
      refine ⟨hi, by rw [e]; simpa using hb, fun j hj => ?_⟩
      intro z
      have z : b ∈ Bs[j] := by simpa using z
      have := flat_at ndB (List.getElem?_eq_getElem (by omega)) h1 z hb
      omega
    show (match Bs.findIdx? (fun C => decide (b ∈ C)) with
      | some i => some (ε.length + τ.length + i)
      | none => if b = a then none else φ b) = _
    rw [this]
  have outB : ∀ {b : Addr}, b ∉ Bs.flatten → φ' b = if b = a then none else φ b := fun {b} hb => by
    have : Bs.findIdx? (fun C => decide (b ∈ C)) = none := by
      rw [List.findIdx?_eq_none_iff]
      intro C hC
      have : b ∉ C := fun z => hb (List.mem_flatten.mpr ⟨C, hC, z⟩)
      simpa using this
    show (match Bs.findIdx? (fun C => decide (b ∈ C)) with
      | some i => some (ε.length + τ.length + i)
      | none => if b = a then none else φ b) = _
    rw [this]
  have old : ∀ {b : Addr} {i : Nat}, φ b = some i → i < ε.length + τ.length → φ' b = some i := fun {b i} h hi => by
    have nb : b ∉ a :: Bs.flatten := fun z => by
      have := hA b z
      rw [h] at this
      have := Option.some.inj this
      omega
    rw [outB (fun z => nb (List.mem_cons_of_mem _ z)), if_neg (fun z : b = a => nb (by rw [z]; exact List.mem_cons_self))]
    exact h
  refine ⟨a, vs, φ', rfl, ha, l2, S0.step (R := fun k => k < ε.length + τ.length) ⟨Same.refl _, fun b h => .inl h, S0.sub, fun b h => h, fun b o h _ => h, fun b i h hi => ⟨rfl, old h hi⟩, fun b i h => ?_⟩ S.len rfl S.fix (fun i w h => ?_) fun j w u h => ?_⟩
  · by_cases z : b ∈ Bs.flatten
    · have q := hA b (List.mem_cons_of_mem _ z)
      exact ⟨(S.own b _ q).1, (S.own b _ q).2.1, .inl ⟨_, q⟩⟩
    · rw [outB z] at h
      by_cases y : b = a
      · rw [if_pos y] at h; cases h
      · rw [if_neg y] at h
        exact ⟨(S.own b _ h).1, (S.own b _ h).2.1, .inl ⟨_, h⟩⟩
  · obtain ⟨hj, _⟩ := List.getElem?_eq_some_iff.mp h
    exact .inl ⟨by show i < ε.length + τ.length; omega, h, rfl⟩
  · by_cases hj : j < τ.length
    · rw [List.getElem?_append_left hj] at h
      exact .inl ⟨by show ε.length + j < ε.length + τ.length; omega, h⟩
    · rw [List.getElem?_append_right (by omega)] at h
      obtain ⟨h1, h2⟩ := (List.getElem?_zip_eq_some).mp h
      obtain ⟨C, c1, c2⟩ := at' _ _ _ h1 h2
      refine .inr ⟨C, c2, flat_nd ndB c1, fun b hb => ?_⟩
      rw [inB c1 hb]
      congr 1
      omega
/-- one of the topmost rows is left -/
theorem Sta.pick {ws : List W} {vs : List V} {k : Nat} {w : W} {v : V} (S : Sta K E F φ ε σ H (τ ++ ws.zip vs)) (h1 : ws[k]? = some w) (h2 : vs[k]? = some v) : ∃ φ', Sta K E F φ' ε σ H (τ ++ [(w, v)]) := by
  have hz : (τ ++ ws.zip vs)[τ.length + k]? = some (w, v) := by
    rw [List.getElem?_append_right (by omega), show τ.length + k - τ.length = k by omega]
    exact (List.getElem?_zip_eq_some).mpr ⟨h1, h2⟩
  obtain ⟨A, r, nd, hA⟩ := S.tmp _ _ _ hz
  have S0 : Sta K E F φ ε σ H τ := Sta.drop S
  refine ⟨fun b => if b ∈ A then some (ε.length + τ.length) else match φ b with
    | some i => if i < ε.length + τ.length then some i else none
    | none => none, S0.step (R := fun k => k < ε.length + τ.length) ⟨Same.refl _, fun b h => .inl h, S0.sub, fun b h => h, fun b o h _ => h, fun b i h hi => ⟨rfl, ?_⟩, fun b i h => ?_⟩ S.len rfl S.fix (fun i w h => ?_) fun j w' u h => ?_⟩
  · have nb : b ∉ A := fun z => by
      have := hA b z
      rw [h] at this
      have := Option.some.inj this
      omega
    show (if b ∈ A then _ else _) = some i
    rw [if_neg nb, h]
    exact if_pos hi
  · have h : (if b ∈ A then some (ε.length + τ.length) else match φ b with
      | some i => if i < ε.length + τ.length then some i else none
      | none => none) = some i := h
    by_cases z : b ∈ A
    · have q := hA b z
      exact ⟨(S.own b _ q).1, (S.own b _ q).2.1, .inl ⟨_, q⟩⟩
    · rw [if_neg z] at h
      cases q : φ b with
      | none => rw [q] at h; cases h
      | some m => exact ⟨(S.own b _ q).1, (S.own b _ q).2.1, .inl ⟨m, rfl⟩⟩
  · obtain ⟨hj, _⟩ := List.getElem?_eq_some_iff.mp h
    exact .inl ⟨by show i < ε.length + τ.length; omega, h, rfl⟩
  · rcases getE_app h with h | ⟨rfl, e⟩
    · obtain ⟨hj, _⟩ := List.getElem?_eq_some_iff.mp h
      exact .inl ⟨by show ε.length + j < ε.length + τ.length; omega, h⟩
    · cases e
      exact .inr ⟨A, r, nd, fun b hb => if_pos hb⟩
end
section
variable {X : Cx} {bp : List Nat} {a e : Expr} {es tgs : List Expr} {ta te : TEA} {t : TAA} {pos p2 pt : Pos}
/-! ### made, parted, one part taken -/
def tTupO (t : TAA) : TEA := fun ε Q => t ε fun xs ε1 => ∃ ws : List W, xs = ws.map EV.v ∧ ws.length ≤ sizeLine ∧ Q (.v (.tup ws)) ε1
theorem ae_tupO {x1} (h : AA X es t) : AE X (.Tuple es x1 pos) (tTupO t) := by
  obtain ⟨_, p, q⟩ := h.ex
  refine ⟨_, pe_tup p, fun E F φ ε σ H τ Q QH S h k => ?_⟩
  refine q E F φ ε σ H τ _ _ S h fun xs vs F1 φ1 ε1 H1 S1 ok h1 => ?_
  obtain ⟨ws, rfl, hl, h2⟩ := h1
  obtain ⟨e, l⟩ := evTs_v (τ := τ) ok
  rw [e] at S1
  obtain ⟨A, r, nd, hA⟩ := S1.gather l
  refine ⟨by rw [l]; exact hl, fun p hp => ?_⟩
  have np : ∀ a ∈ A, a ≠ p := fun a ha z => by
    obtain ⟨k, h, _⟩ := hA a ha
    exact (S1.own a k h).2.1 (z ▸ hp)
  obtain ⟨φ2, S2⟩ := S1.join (w := .tup ws) (v := .ref p) (o := .tup vs) hp hA (by
    rw [rep_tup]
    exact ⟨p, vs, A, rfl, rfl, upd_same, Reps.keep (Same.refl _) ws vs A (fun a ha => upd_ne (np a ha)) r⟩) nd
  exact k (.v (.tup ws)) _ F1 φ2 ε1 _ S2 True.intro h2
def tUnpO (is : List Nat) (te : TEA) : TSA := fun D ε => te ε fun x ε1 => ∃ (ws : List W) (ε2 : Env), Tak x ε1 (.tup ws) ε2 ∧ is.length = ws.length ∧ (∀ i ∈ is, i < ε2.length) ∧ D.nx (setsW ε2 is ws)
theorem as_unpO {is : List Nat} {n : Nat} {kt} (hc : X.calm = true) (hn : AN X is tgs) (he : AE X e te) (hb : ∀ k ∈ is, k ∉ bp := by decide)
    (hs : swapsWithSole [.Tuple tgs kt pt] e pos.line X.env = pure false := by rfl) (hw : swappedStores [.Tuple tgs kt pt] e X.env = pure none := by rfl)
    (h1 : (assignEach [.Tuple tgs kt pt] X.env).map (·.2) = [assign (.Tuple tgs kt pt) X.env] := by rfl) (hl : (assignEach tgs X.env).length = n := by rfl) (hi : is.length = n := by rfl) (hst : (assignEach tgs X.env).findIdx? (·.1) = none := by rfl) :
    AS X bp (.Assign [.Tuple tgs kt pt] e pos) (tUnpO is te) := by
  obtain ⟨_, p, q⟩ := he.ex
  obtain ⟨_, pn, qn⟩ := hn.ex
  refine ⟨_, ps_asg p (pg_tup hc pn hl hst) hs hw h1, fun E F φ ε σ H τ D DH he S h f => ?_⟩
  subst he
  refine q E F φ ε σ H τ _ _ S h fun rv v F1 φ1 ε1 H1 S1 ok h1 => ?_
  obtain ⟨ws, ε2, tk, hl2, hlt, h2⟩ := h1
  obtain ⟨F2, φ2, S2⟩ := S1.take ok tk
  obtain ⟨b, vs, φ3, rfl, hb2, l, S3⟩ := S2.burst
  obtain ⟨φ4, S4⟩ := S3.stores l hl2 hlt hb
  exact ⟨b, vs, rfl, SqT.of hb2, by omega, qn vs σ _ _ (by omega) (f.nx F2 φ4 _ _ _ S4 h2)⟩
theorem atI_nat0 {vs : List V} {k : Nat} {u : V} (h : vs[k]? = some u) : atI vs (k : Int) = some u := by
  have hk := (List.getElem?_eq_some_iff.mp h).1
  unfold atI ixN
  rw [if_pos (by omega), if_pos (by omega)]
  simpa using h
def tIxO (k : Nat) (ta : TEA) : TEA := fun ε Q => ta ε fun x ε1 => ∃ (ws : List W) (w : W), x = .v (.tup ws) ∧ ws[k]? = some w ∧ Q (.v w) ε1
theorem ae_ixO {k : Nat} {j} (ha : AE X a ta) (hs : PlainIx (.Constant (.int (k : Nat)) j p2) := by exact fun _ _ => rfl) : AE X (.Subscript a (.Constant (.int (k : Nat)) j p2) pos) (tIxO k ta) := by
  obtain ⟨_, pa, qa⟩ := ha.ex
  refine ⟨_, pe_ix ix_seq pa pe_int hs, fun E F φ ε σ H τ Q QH S h kk => ?_⟩
  refine qa E F φ ε σ H τ _ _ S h fun x v F1 φ1 ε1 H1 S1 ok1 h1 => ?_
  obtain ⟨ws, w, rfl, hw, h2⟩ := h1
  obtain ⟨b, vs, φ2, rfl, hb, l, S2⟩ := Sta.burst S1
  obtain ⟨u, hu⟩ : ∃ u, vs[k]? = some u := ⟨_, List.getElem?_eq_getElem (by have := (List.getElem?_eq_some_iff.mp hw).1; omega)⟩
  obtain ⟨φ3, S3⟩ := S2.pick hw hu
  exact .inr (.inl ⟨b, vs, _, u, rfl, rfl, SqT.of hb, atI_nat0 hu, kk (.v w) u F1 φ3 ε1 H1 S3 True.intro h2⟩)
/-! ### len(x[k]) of a tuple's own list -/
def tLenIx (k : Nat) (ta : TEA) : TEA := fun ε Q => ta ε fun x ε1 => ∃ (ws ws' : List W) (ε2 : Env), cnt ε1 x = some (.tup ws) ∧ ws[k]? = some (.lst ws') ∧ bck x ε1 = some ε2 ∧ Q (.v (.d (.int (ws'.length : Nat)))) ε2
theorem ae_lenIx {k : Nat} {j} {p p3 : Pos} (hg : Gl X "len") (hm : X.mg "len" = none) (ha : AE X a ta) (hs : PlainIx (.Constant (.int (k : Nat)) j p2) := by exact fun _ _ => rfl)
    (hs2 : starEach [Expr.Subscript a (.Constant (.int (k : Nat)) j p2) p3] X.env = [(false, eval (Expr.Subscript a (.Constant (.int (k : Nat)) j p2) p3) X.env)] := by rfl) : AE X (.Call (.Name "len" p) [.Subscript a (.Constant (.int (k : Nat)) j p2) p3] [] pos) (tLenIx k ta) := by
  obtain ⟨_, pa, qa⟩ := ha.ex
  refine ⟨_, pe_callB (es := []) call_len hg hm rfl (pa_cons (pe_ix ix_seq pa pe_int hs) pa_nil hs2) (by decide) (by decide) hs2, fun E F φ ε σ H τ Q QH S h kk => ?_⟩
  refine qa E F φ ε σ H τ _ _ S h fun x v F1 φ1 ε1 H1 S1 ok1 h1 => ?_
  obtain ⟨ws, ws', ε2, c, hk, b, h2⟩ := h1
  obtain ⟨A, r, _, _⟩ := S1.view ok1 c
  obtain ⟨φ2, S2⟩ := S1.back ok1 b
  rw [rep_tup] at r
  obtain ⟨a0, vs, B, rfl, rfl, ha0, rs⟩ := r
  obtain ⟨Bs, _, l1, l2, at'⟩ := rs.split
  obtain ⟨u, hu⟩ : ∃ u, vs[k]? = some u := ⟨_, List.getElem?_eq_getElem (by have := (List.getElem?_eq_some_iff.mp hk).1; omega)⟩
  obtain ⟨C, _, rC⟩ := at' _ _ _ hk hu
  rw [rep_lst] at rC
  obtain ⟨b0, us, D, rfl, rfl, hb0, rD⟩ := rC
  refine .inr (.inl ⟨a0, vs, _, _, rfl, rfl, SqT.of ha0, atI_nat0 hu, ?_⟩)
  obtain ⟨φ3, S3⟩ := S2.pushD (x := .int (ws'.length : Nat)) (v := .int (ws'.length : Nat)) (by rw [dq_int])
  refine ⟨_, us.length, rfl, .inl ⟨us, SqL.of hb0, rfl⟩, ?_⟩
  rw [rD.len]
  exact kk (.v _) _ F1 φ3 ε2 H1 S3 True.intro h2
end
/-! ### x[k].append(d) of a list of own lists -/
section
variable {K : PySem.W.Frag} {E : Ent} {F H : Hp} {φ : Addr → Option Nat} {ε : Env} {σ : L2.St} {τ : List (W × V)}
theorem Reps.grow {d : PyData} {y : V} {b : Addr} {us : List V} (hb : H b = some (.lst us)) (dq : Dq K F d y) : ∀ {k : Nat} {ws : List W} {vs : List V} {B : List Addr} {ds : List PyData}, Reps K F H ws vs B → B.Nodup → ws[k]? = some (.lst (ds.map W.d)) → vs[k]? = some (.ref b) →
    Reps K F (upd H b (.lst (us ++ [y]))) (ws.set k (.lst ((ds ++ [d]).map W.d))) vs B ∧ b ∈ B
  | k, [], vs, B, ds, r, nd, h1, h2 => by simp at h1
  | 0, w :: ws, vs, B, ds, r, nd, h1, h2 => by
    rw [reps_cons] at r
    obtain ⟨v, vr, B1, B2, rfl, rfl, r1, r2⟩ := r
    simp at h1 h2
    subst h1
    subst h2
    rw [rep_lst] at r1
    obtain ⟨b', us', C, e, rfl, hb', rC⟩ := r1
    cases e
    rw [hb] at hb'
    cases hb'
    have nb : ∀ x ∈ C ++ B2, x ≠ b := fun x hx z => by
      subst z
      exact (List.nodup_cons.mp (by simpa using nd)).1 hx
    refine ⟨?_, by simp⟩
    rw [List.set_cons_zero, reps_cons]
    refine ⟨.ref b, vr, b :: C, B2, rfl, rfl, ?_, Reps.keep (Same.refl _) _ _ _ (fun x hx => upd_ne (nb x (List.mem_append_right _ hx))) r2⟩
    rw [rep_lst]
    refine ⟨b, us ++ [y], C, rfl, rfl, upd_same, ?_⟩
    rw [List.map_append, List.map_singleton]
    have one := Reps.snoc (w := .d d) (v := y) (B := []) (by rw [rep_d]; exact ⟨dq, rfl⟩) (Reps.keep (F' := F) (H' := upd H b (.lst (us ++ [y]))) (Same.refl _) _ _ _ (fun x hx => upd_ne (nb x (List.mem_append_left _ hx))) rC)
    simpa using one
  | k + 1, w :: ws, vs, B, ds, r, nd, h1, h2 => by
    rw [reps_cons] at r
    obtain ⟨v, vr, B1, B2, rfl, rfl, r1, r2⟩ := r
    obtain ⟨m1, m2, m3⟩ := List.nodup_append.mp nd
    obtain ⟨g, hin⟩ := Reps.grow hb dq (k := k) r2 m2 (by simpa using h1) (by simpa using h2)
    refine ⟨?_, List.mem_append_right _ hin⟩
    rw [List.set_cons_succ, reps_cons]
    exact ⟨v, vr, B1, B2, rfl, rfl, Rep.keep (Same.refl _) _ _ _ (fun x hx => upd_ne (fun z => m3 x hx b hin z)) r1, g⟩
theorem Sta.grow {i k : Nat} {a b : Addr} {ws : List W} {vs us : List V} {ds : List PyData} {d : PyData} {y : V} (S : Sta K E F φ ε σ H τ) (he : ε[i]? = some (some (.lst ws))) (hs : σ[i]? = some (some (.ref a))) (ha : H a = some (.lst vs)) (hk : ws[k]? = some (.lst (ds.map W.d))) (hv : vs[k]? = some (.ref b)) (hb : H b = some (.lst us)) (dq : Dq K F d y) :
    Sta K E F φ (ε.set i (some (.lst (ws.set k (.lst ((ds ++ [d]).map W.d)))))) σ (upd H b (.lst (us ++ [y]))) τ := by
  obtain ⟨v, A, e, r, nd, hA⟩ := S.slot i _ he
  rw [hs] at e
  cases e
  rw [rep_lst] at r
  obtain ⟨a', vs', B, e, rfl, ha', rs⟩ := r
  cases e
  rw [ha] at ha'
  cases ha'
  obtain ⟨g, hin⟩ := Reps.grow hb dq rs (List.nodup_cons.mp nd).2 hk hv
  have hφ := hA b (List.mem_cons_of_mem _ hin)
  have own := S.own b i hφ
  have nab : a ≠ b := fun z => (List.nodup_cons.mp nd).1 (z ▸ hin)
  have hi : i < ε.length := (List.getElem?_eq_some_iff.mp he).1
  refine S.step (R := fun j => j ≠ i) ⟨Same.refl _, fun x h => .inl h, fun x o h => ?_, fun x h => ?_, fun x o h hn => ?_, fun x j h hj => ⟨?_, h⟩, fun x j h => ?_⟩ (by rw [List.length_set]; exact S.len) (List.length_set ..) S.fix (fun j w h => ?_) fun j w u h => .inl ⟨by show ε.length + j ≠ i; omega, h⟩
  · have : x ≠ b := fun z => by rw [z, own.1] at h; cases h
    rw [upd_ne this]
    exact S.sub x o h
  · by_cases z : x = b
    · rw [z, upd_same] at h; cases h
    · rwa [upd_ne z] at h
  · have : x ≠ b := fun z => by rw [z, hφ] at hn; cases hn
    rwa [upd_ne this]
  · have : x ≠ b := fun z => by
      rw [z, hφ] at h
      exact hj (Option.some.inj h).symm
    exact upd_ne this
  · have o2 := S.own x j h
    refine ⟨o2.1, ?_, .inl ⟨j, h⟩⟩
    by_cases z : x = b
    · rw [z, upd_same]; simp
    · rw [upd_ne z]; exact o2.2.1
  · rcases set_get h with ⟨rfl, e2⟩ | ⟨ne, h⟩
    · cases e2
      refine .inr ⟨.ref a, a :: B, hs, ?_, nd, hA⟩
      rw [rep_lst]
      exact ⟨a, vs, B, rfl, rfl, by rw [upd_ne nab]; exact ha, g⟩
    · exact .inl ⟨ne, h, rfl⟩
end
end Ab

namespace Ab
open PySem PySem.Spec PyProof.Rows L2
/-! ## xs.count(k) of a row of texts -/
theorem countIn_str (k : Str) : ∀ ys : List Str, countIn (.str k) (ys.map PyData.str) = ((ys.count k : Nat) : Int)
  | [] => rfl
  | y :: ys => by
    rw [List.map_cons, countIn, countIn_str k ys, List.count_cons]
    simp only [same]
    rcases Bool.eq_false_or_eq_true (y == k) with hb | hb <;> simp only [hb, Bool.false_eq_true, if_true, if_false] <;> push_cast <;> omega
def rCntS (K : PySem.W.Frag) : V → List V → Hp → VK → Prop := fun x xs H Q => ∃ (p : Addr) (ys : List Str) (k : Str), x = .ref p ∧ xs = [.str k] ∧ SqL K H p (ys.map V.str) ∧ Q (.int (ys.count k : Nat)) H
theorem mt_countS {X : Cx} : MtR X "list.count" (rCntS X.K) := by
  intro pins s σ H x xs v us Q I rx rxs h
  obtain ⟨p, ys, k, rfl, rfl, hs, q⟩ := h
  cases rx
  obtain ⟨u, rfl, ru⟩ := rxs.one
  obtain ⟨t, rfl⟩ := ru
  obtain ⟨its, rv, ⟨ob, n, ho, hc, hdn, hd⟩, hlen⟩ := I.list hs
  refine count_list_strs ⟨ob, ho, hc, n, hd⟩ (Vals.strs rv) ⟨.int (ys.count k : Nat), H, I.tok _, ⟨s.toks, ?_⟩, q⟩
  rw [countIn_str]
inductive CountR : W → List W → W → Prop
  | S {w : W} {ys : List Str} {x : Str} (h : DL w (ys.map PyData.str)) : CountR w [.d (.str x)] (.d (.int (ys.count x : Nat)))
theorem rd_count {X : Cx} : RdA X "list.count" CountR := ⟨_, mt_countS, fun F H w ws v vs res QH s c hr k => by
  cases hr with
  | @S ys x h =>
    obtain ⟨⟨A, r⟩, c2⟩ := (show (∃ A, Rep X.K F H w v A) ∧ Cont X.K F H [.d (.str x)] vs from c)
    obtain ⟨v2, A2, rfl, r2⟩ := cont1 c2
    rw [rep_d, dq_str] at r2
    obtain ⟨a, us, rfl, sq, dq⟩ := h.ok s r
    rw [dqs_strs dq] at sq
    exact ⟨a, ys, x, rfl, by rw [r2.1], sq, k _ F H (New.pure (by rw [dq_int]))⟩⟩
/-! ## x[k].append(c): c a datum that is written there -/
/-- an expression that makes a datum, whatever is there -/
def NwE (X : Cx) (e : Expr) (d : PyData) : Prop := ∃ te : TE, PE X e te ∧ ∀ (F H : Hp) (σ : L2.St) (Q : VK), Same F H → (∀ v F' H', New X.K F H (.d d) v F' H' → Q v H') → te σ H Q
section
variable {X : Cx} {pos p2 px : Pos}
theorem nw_str {x : Str} {j} : NwE X (.Constant (.str x) j pos) (.str x) := ⟨_, pe_str, fun F H σ Q s k => k _ F H (New.pure (by rw [dq_str]))⟩
theorem nw_int {n : Int} {j} : NwE X (.Constant (.int n) j pos) (.int n) := ⟨_, pe_int, fun F H σ Q s k => k _ F H (New.pure (by rw [dq_int]))⟩
theorem nw_strInt {x : Str} {n : Int} {j j2} {x1} (h1 : starEach [Expr.Constant (.str x) j p2, .Constant (.int n) j2 px] X.env = (false, eval (.Constant (.str x) j p2) X.env) :: starEach [.Constant (.int n) j2 px] X.env := by rfl) (h2 : starEach [Expr.Constant (.int n) j2 px] X.env = (false, eval (.Constant (.int n) j2 px) X.env) :: starEach [] X.env := by rfl) : NwE X (.Tuple [.Constant (.str x) j p2, .Constant (.int n) j2 px] x1 pos) (.tuple [.str x, .int n]) :=
  ⟨_, pe_tup (pa_cons pe_str (pa_cons pe_int pa_nil)), fun F H σ Q s k => ⟨by rw [show ([V.str x, V.int n] : List V).length = 2 from rfl, sizeLine_eq]; decide, fun p hp => k _ _ _ (New.tup hp (by rw [dqs_cons]; exact ⟨_, _, rfl, by rw [dq_str], by rw [dqs_cons]; exact ⟨_, _, rfl, by rw [dq_int], by rw [dqs_nil]⟩⟩))⟩⟩
def tGrow (i k : Nat) (d : PyData) : TEA := fun ε Q => ∃ (ws : List W) (ds : List PyData), ε[i]? = some (some (.lst ws)) ∧ ws[k]? = some (.lst (ds.map W.d)) ∧ ds.length < sizeLine ∧ Q (.v (.d .none)) (ε.set i (some (.lst (ws.set k (.lst ((ds ++ [d]).map W.d))))))
theorem ae_grow {i k : Nat} {x : Str} {e : Expr} {d : PyData} {j} {p3 apos cpos : Pos} (he : NwE X e d) (hN : X.N[i]? = some x := by rfl) (hv : Vis X.env.scope x := by first | exact Or.inl rfl | exact Or.inr (Or.inl rfl) | exact Or.inr (Or.inr rfl)) (hd : (x == ("__debug__" : Str)) = false := by decide)
    (hcd : (x == ("__classdict__" : Str)) = false := by decide) (hs : PlainIx (.Constant (.int (k : Nat)) j p2) := by exact fun _ _ => rfl)
    (hbase : attributeBase (.Subscript (.Name x px) (.Constant (.int (k : Nat)) j p2) p3) "append" X.env (eval (.Subscript (.Name x px) (.Constant (.int (k : Nat)) j p2) p3) X.env) = eval (.Subscript (.Name x px) (.Constant (.int (k : Nat)) j p2) p3) X.env := by rfl)
    (hfew : ((backTo cpos (starEach [e] X.env)).all (fun x => !x.1) && (backToKw cpos (keywordEach [] X.env)).all (fun x => x.1.isSome)
      && decide ([e].length + ([] : List Keyword).length + (if ([] : List Keyword).isEmpty then 0 else 1) < 30)) = true := by rfl)
    (hline : (apos.endLine == cpos.line) = true := by rfl) (hst : starEach [e] X.env = (false, eval e X.env) :: starEach [] X.env := by rfl) (hplain : (backTo cpos (starEach [] X.env)).any (·.1) = false := by rfl) :
    AE X (.Call (.Attribute (.Subscript (.Name x px) (.Constant (.int (k : Nat)) j p2) p3) "append" apos) [e] [] cpos) (tGrow i k d) := by
  obtain ⟨te, pe, nw⟩ := he
  refine ⟨_, pe_bm PySem.F.plainAttrs_list PySem.F.slot_list_append PySem.F.type_list_append mt_append (pe_ix ix_seq (pe_var hN hv hd hcd) pe_int hs) (pa_cons pe pa_nil hst) hbase hfew hline hst hplain, fun E F φ ε σ H τ Q QH S h kk => ?_⟩
  obtain ⟨ws, ds, he, hk, hl, hQ⟩ := h
  obtain ⟨v, A, es, r, nd, hA⟩ := S.slot i _ he
  rw [rep_lst] at r
  obtain ⟨a, vs, B, rfl, rfl, ha, rs⟩ := r
  obtain ⟨Bs, _, l1, l2, at'⟩ := rs.split
  obtain ⟨u, hu⟩ : ∃ u, vs[k]? = some u := ⟨_, List.getElem?_eq_getElem (by have := (List.getElem?_eq_some_iff.mp hk).1; omega)⟩
  obtain ⟨C, _, rC⟩ := at' _ _ _ hk hu
  rw [rep_lst] at rC
  obtain ⟨b, us, D, rfl, rfl, hb, rD⟩ := rC
  refine ⟨.ref a, es, .inl ⟨a, vs, _, _, rfl, rfl, SqL.of ha, atI_nat0 hu, .inl ⟨rfl, us, SqL.of hb⟩, ?_⟩⟩
  refine nw F H σ _ S.sub fun y F1 H1 n => ?_
  obtain ⟨s1, s2, fn, pre, old, A', r', nd', hA'⟩ := n.rep S.sub
  rw [rep_d] at r'
  obtain ⟨φ1, S1⟩ := S.new n
  have S2 := Sta.drop S1
  have S3 := S2.grow he es (old _ _ ha) hk hu (old _ _ hb) r'.1
  obtain ⟨φ4, S4⟩ := S3.pushD (x := .none) (v := .non) (by rw [dq_none])
  exact ⟨b, us, y, rfl, rfl, old _ _ hb, by rw [rD.len, List.length_map]; exact hl, kk (.v (.d .none)) .non _ φ4 _ _ S4 True.intro hQ⟩
/-! ## is None of what may be a tuple -/
inductive IsNTR : W → W → W → Prop
  | d {x : PyData} : IsNTR (.d x) (.d .none) (.d (.bool (isNon x)))
  | t {ws : List W} : IsNTR (.tup ws) (.d .none) (.d (.bool false))
theorem oa_isNT : OpA X (compareOp .Is) IsNTR := ⟨_, op_isN, fun F H wx wy vx vy A B res QH s rx ry hr k => by
  cases hr with
  | d =>
    rw [rep_d] at rx ry
    rw [dq_none] at ry
    exact ⟨ry.1, by rw [dec_non rx.1]; exact k _ F H (New.pure (by rw [dq_bool]))⟩
  | t =>
    rw [rep_d, dq_none] at ry
    rw [rep_tup] at rx
    obtain ⟨b, us, B', rfl, _⟩ := rx
    exact ⟨ry.1, by rw [show decide (V.ref b = V.non) = false by simp]; exact k _ F H (New.pure (by rw [dq_bool]))⟩⟩
end
/-! ## steps -/
section
variable {ε : Env} {Q : EV → Env → Prop} {ta te : TEA} {t : TAA}
def TpoE (xs : List EV) (ε1 : Env) (Q : EV → Env → Prop) : Prop := ∃ ws : List W, xs = ws.map EV.v ∧ ws.length ≤ sizeLine ∧ Q (.v (.tup ws)) ε1
theorem g_tpo (h : t ε fun xs ε1 => TpoE xs ε1 Q) : tTupO t ε Q := h
theorem g_tpoE {ws : List W} (h : ws.length ≤ sizeLine) (k : Q (.v (.tup ws)) ε) : TpoE (ws.map EV.v) ε Q := ⟨ws, rfl, h, k⟩
theorem g_tpo3 {a b c : W} (k : Q (.v (.tup [a, b, c])) ε) : TpoE [.v a, .v b, .v c] ε Q := ⟨[a, b, c], rfl, by show 3 ≤ sizeLine; rw [sizeLine_eq]; decide, k⟩
theorem g_tpo2 {a b : W} (k : Q (.v (.tup [a, b])) ε) : TpoE [.v a, .v b] ε Q := ⟨[a, b], rfl, by show 2 ≤ sizeLine; rw [sizeLine_eq]; decide, k⟩
def IxoE (k : Nat) (x : EV) (ε1 : Env) (Q : EV → Env → Prop) : Prop := ∃ (ws : List W) (w : W), x = .v (.tup ws) ∧ ws[k]? = some w ∧ Q (.v w) ε1
theorem g_ixo {k : Nat} (h : ta ε fun x ε1 => IxoE k x ε1 Q) : tIxO k ta ε Q := h
theorem g_ixoE {k : Nat} {ws : List W} {w : W} (h : ws[k]? = some w) (q : Q (.v w) ε) : IxoE k (.v (.tup ws)) ε Q := ⟨ws, w, rfl, h, q⟩
def LixE (k : Nat) (x : EV) (ε1 : Env) (Q : EV → Env → Prop) : Prop := ∃ (ws ws' : List W) (ε2 : Env), cnt ε1 x = some (.tup ws) ∧ ws[k]? = some (.lst ws') ∧ bck x ε1 = some ε2 ∧ Q (.v (.d (.int (ws'.length : Nat)))) ε2
theorem g_lix {k : Nat} (h : ta ε fun x ε1 => LixE k x ε1 Q) : tLenIx k ta ε Q := h
theorem g_lixE {k : Nat} {x : EV} {ws ws' : List W} {ε2 : Env} (h1 : cnt ε x = some (.tup ws)) (h2 : ws[k]? = some (.lst ws')) (h3 : bck x ε = some ε2) (q : Q (.v (.d (.int (ws'.length : Nat)))) ε2) : LixE k x ε Q := ⟨ws, ws', ε2, h1, h2, h3, q⟩
theorem g_grow {i k : Nat} {d : PyData} {ws : List W} {ds : List PyData} (h1 : ε[i]? = some (some (.lst ws))) (h2 : ws[k]? = some (.lst (ds.map W.d))) (h3 : ds.length < sizeLine) (q : Q (.v (.d .none)) (ε.set i (some (.lst (ws.set k (.lst ((ds ++ [d]).map W.d))))))) : tGrow i k d ε Q := ⟨ws, ds, h1, h2, h3, q⟩
variable {D : EndsA}
def UnpE (is : List Nat) (x : EV) (ε1 : Env) (D : EndsA) : Prop := ∃ (ws : List W) (ε2 : Env), Tak x ε1 (.tup ws) ε2 ∧ is.length = ws.length ∧ (∀ i ∈ is, i < ε2.length) ∧ D.nx (setsW ε2 is ws)
theorem g_unp {is : List Nat} (h : te ε fun x ε1 => UnpE is x ε1 D) : tUnpO is te D ε := h
theorem g_unpE {is : List Nat} {x : EV} {ws : List W} {ε2 : Env} (h1 : Tak x ε (.tup ws) ε2) (h2 : is.length = ws.length) (h3 : ∀ i ∈ is, i < ε2.length) (q : NxE D (setsW ε2 is ws)) : UnpE is x ε D := ⟨ws, ε2, h1, h2, h3, q⟩
end
end Ab

namespace FamE
open PySem PySem.Spec PyProof.Rows L2 Ab Lc

local macro_rules | `(tactic| walk_at "sd") => `(tactic| first | assumption | omega | exact True.intro | decide | (simp only [List.length_map, List.length_append, List.length_cons, List.length_nil, List.length_range, List.length_replicate]; omega))
local macro_rules | `(tactic| walk_at "dl") => `(tactic| first | assumption | exact .d _ | exact .L _ | exact DL.n | (apply DL.c; walk_at "dl"))
local macro_rules | `(tactic| walk_at "rfys") => `(tactic| first | exact .nil | (apply Rfys.cons; (walk_at "rfy"); (walk_at "rfys")))
local macro_rules | `(tactic| walk_at "rfy") => `(tactic| first | exact .d _ | exact .L _ | assumption | (apply Rfy.lst; walk_at "rfys"))
local macro_rules | `(tactic| walk_at "at") => `(tactic| first | assumption | exact rfl | (apply atI_nat; first | assumption | exact rfl))
local macro_rules | `(tactic| walk_at "rel") => `(tactic| first
  | assumption
  | exact .int
  | exact .str
  | exact .mk
  | exact .bool
  | ((refine' MulR.int ?k1); (case k1 => (refine' cmulA ?k2 ?k3; (case k2 => walk_at "sd"); (case k3 => walk_at "sd"))))
  | ((refine' MulR.str ?k1); (case k1 => walk_at "sd"))
  | ((refine' mulL ?k1 ?k2 ?k3); (case k1 => walk_at "dl"); (case k2 => walk_at "sd"); (case k3 => walk_at "sd"))
  | ((refine' IxW.S ?k1 ?k2); (case k1 => first | walk_at "sd" | decide +kernel); (case k2 => walk_at "at"))
  | ((refine' IntR.mk ?k1); (case k1 => first | walk_at "sd" | (refine' cdivA ?k2 ?k3; (case k2 => walk_at "sd"); (case k3 => walk_at "sd")) | (refine' cpow3A ?k2; (case k2 => walk_at "sd"))))
  | ((refine' IxW.L ?k1 ?k2); (case k1 => walk_at "dl"); (case k2 => walk_at "at"))
  | ((refine' IxW.T ?k1 ?k2); (case k1 => exact .d _); (case k2 => walk_at "at"))
  | exact lenM
  | exact lenD
  | ((refine' LenR.L ?k1); (case k1 => walk_at "dl"))
  | ((refine' LenR.T ?k1); (case k1 => exact .d _))
  | ((refine' LenR.S ?k1); (case k1 => walk_at "sd"))
  | ((refine' ListR.L ?k1); (case k1 => walk_at "dl"))
  | ((refine' ListR.T ?k1); (case k1 => exact .d _))
  | ((refine' ListSR.mk ?k1); (case k1 => first | walk_at "sd" | decide +kernel))
  | ((refine' InR.strL ?k1); (case k1 => walk_at "dl"))
  | ((refine' AddR.str ?k1); (case k1 => walk_at "sd"))
  | ((refine' AddR.lst ?k1 ?k2 ?k3); (case k1 => walk_at "dl"); (case k2 => walk_at "dl"); (case k3 => walk_at "sd"))
  | ((refine' AppR.D ?k1); (case k1 => walk_at "sd"))
  | ((refine' AppR.G ?k1); (case k1 => walk_at "sd"))
  | ((refine' ExtR.mk ?k1); (case k1 => walk_at "sd"))
  | exact .mk True.intro
  | ((refine' InsR.mk ?k1 ?k2 ?k3); (case k1 => walk_at "sd"); (case k2 => walk_at "sd"); (case k3 => walk_at "sd"))
  | ((refine' IsiR.mk ?k1 ?k2); (case k1 => exact rfl); (case k2 => exact rfl))
  | ((refine' JoinXR.L ?k1 ?k2); (case k1 => walk_at "dl"); (case k2 => walk_at "sd"))
  | ((refine' StR0.mk ?k1); (case k1 => walk_at "sd"))
  | ((refine' JoinR.L ?k1 ?k2); (case k1 => walk_at "dl"); (case k2 => walk_at "sd"))
  | ((refine' DPopR.mk ?k1); (case k1 => walk_at "sd"))
  | ((refine' StrR.int ?k1); (case k1 => walk_at "sd")))
local macro_rules | `(tactic| walk_at "pu") => `(tactic| first | exact rfl | (apply puts_v; walk_at "pu") | (apply puts_fl; (walk_at "pu"); exact rfl))
local macro_rules | `(tactic| walk_at "ev") => `(tactic| dsimp only [List.set_cons_zero, List.set_cons_succ, List.set_nil, putW, putP, setsW, Nat.reduceAdd, Nat.zero_add, Int.reduceToNat, restW, wipeW, keepW, plainW, List.getElem?_cons_zero, List.getElem?_cons_succ, ↓reduceIte])
local macro_rules | `(tactic| walk_at "g1") => `(tactic| first
  | with_reducible refine' g_seq ?_
  | with_reducible refine' g_asg ?_
  | with_reducible refine' g_drop ?_
  | with_reducible refine' g_ret ?_
  | with_reducible refine' g_retN ?_
  | with_reducible refine' g_ifS ?_
  | with_reducible refine' g_next ?_
  | with_reducible refine' g_bin ?_
  | with_reducible refine' g_K ?_
  | ((with_reducible refine' g_varD ?h1 ?_); (case h1 => exact rfl))
  | ((with_reducible refine' g_varL ?h1 ?_); (case h1 => exact rfl))
  | ((with_reducible refine' g_varK ?h1 ?_); (case h1 => exact rfl))
  | ((with_reducible refine' g_varI ?h1 ?_); (case h1 => exact rfl))
  | ((with_reducible refine' g_varV ?h1 ?_); (case h1 => exact rfl))
  | ((with_reducible refine' g_binPow ?h1 ?h2 ?_); (case h1 => first | exact ⟨by decide, by decide⟩ | (refine' cpowA ?k2 ?k3; (case k2 => walk_at "sd"); (case k3 => decide))); (case h2 => first | ((dsimp only [Int.reduceToNat]); done) | ((dsimp only [Int.reduceToNat]); exact rfl)))
  | ((with_reducible refine' g_binV ?h1 ?_); (case h1 => walk_at "rel"))
  | ((with_reducible refine' g_binE ?h1 ?h2 ?h3 ?h4 ?h5 ?_); (case h1 => exact rfl); (case h2 => exact rfl); (case h3 => exact rfl); (case h4 => exact rfl); (case h5 => walk_at "rel"); try walk_at "ev")
  | with_reducible refine' g_bl ?_
  | with_reducible refine' g_blE ?_
  | with_reducible refine' g_and ?_
  | with_reducible refine' g_or ?_
  | with_reducible refine' g_not ?_
  | with_reducible refine' g_if ?_
  | with_reducible refine' g_andV ?_
  | with_reducible refine' g_orV ?_
  | with_reducible refine' g_notV ?_
  | with_reducible refine' g_boE ?_
  | with_reducible refine' g_ifInT ?_
  | with_reducible refine' g_ifInF ?_
  | with_reducible refine' g_ifN ?_
  | ((with_reducible refine' g_ifT ?h1 ?_); (case h1 => exact rfl))
  | ((with_reducible refine' g_ifF ?h1 ?_); (case h1 => exact rfl))
  | ((with_reducible refine' g_ifDT ?h1 ?_); (case h1 => first | assumption | omega))
  | ((with_reducible refine' g_ifDF ?h1 ?_); (case h1 => first | assumption | omega))
  | with_reducible refine' g_nil ?_
  | with_reducible refine' g_cons ?_
  | with_reducible refine' g_cb ?_
  | ((with_reducible refine' g_cbE ?h1 ?h2 ?h3 ?_); (case h1 => exact rfl); (case h2 => exact rfl); (case h3 => walk_at "rel"))
  | with_reducible refine' g_mut ?_
  | ((with_reducible refine' g_mutB ?h1 ?h2 ?_); (case h1 => exact rfl); (case h2 => exact rfl))
  | ((with_reducible refine' g_mutE0 ?h1 ?h2 ?h3 ?_); (case h1 => exact rfl); (case h2 => walk_at "rel"); (case h3 => exact rfl); try walk_at "ev")
  | ((with_reducible refine' g_mutE1 ?h1 ?h2 ?h3 ?_); (case h1 => exact rfl); (case h2 => walk_at "rel"); (case h3 => exact rfl); try walk_at "ev")
  | ((with_reducible refine' g_mutE2 ?h1 ?h2 ?h3 ?_); (case h1 => exact rfl); (case h2 => walk_at "rel"); (case h3 => exact rfl); try walk_at "ev")
  | with_reducible refine' g_neg ?_
  | with_reducible refine' g_negE ?_
  | with_reducible refine' g_lv ?_
  | ((with_reducible refine' g_lvE ?h1 ?h2 ?h3 ?_); (case h1 => exact rfl); (case h2 => exact rfl); (case h3 => walk_at "sd"))
  | with_reducible refine' g_rd ?_
  | ((with_reducible refine' g_rdB ?h1 ?h2 ?_); (case h1 => exact rfl); (case h2 => exact rfl))
  | ((with_reducible refine' g_rdE ?h1 ?h2 ?h3 ?_); (case h1 => exact rfl); (case h2 => exact rfl); (case h3 => walk_at "rel"))
  | with_reducible refine' g_own ?_
  | with_reducible refine' g_ownV ?_
  | with_reducible refine' g_frz ?_
  | with_reducible refine' g_frzD ?_
  | ((with_reducible refine' g_frzV ?h1 ?_); (case h1 => walk_at "rfy"))
  | ((with_reducible refine' g_frzS ?h1 ?h2 ?_); (case h1 => exact rfl); (case h2 => walk_at "rfy"); try walk_at "ev")
  | with_reducible refine' g_lend ?_
  | with_reducible refine' g_lendV ?_
  | with_reducible refine' g_lendF ?_
  | ((with_reducible refine' g_lendS ?h1 (fun _ => ?_)); (case h1 => exact rfl); try walk_at "ev")
  | with_reducible refine' g_late ?_
  | with_reducible refine' g_lateN ?_
  | with_reducible refine' g_lateV ?_
  | with_reducible refine' g_lateF ?_
  | ((with_reducible refine' g_lateS ?h1 (fun _ => ?_)); (case h1 => exact rfl); try walk_at "ev")
  | with_reducible refine' g_call ?_
  | ((with_reducible refine' g_callE ?h1 ?_); (case h1 => exact rfl); try dsimp only)
  | ((with_reducible refine' g_putE ?h1 ?h2 ?_); (case h1 => exact rfl); (case h2 => walk_at "pu"); try walk_at "ev")
  | with_reducible refine' g_lst ?_
  | ((with_reducible refine' g_lstE ?h1 ?h2 ?_); (case h1 => exact rfl); (case h2 => exact rfl))
  | with_reducible refine' g_tup ?_
  | ((with_reducible refine' g_tupE ?h1 ?h2 ?h3 ?_); (case h1 => exact rfl); (case h2 => walk_at "rfys"); (case h3 => exact rfl))
  | with_reducible refine' g_noPart ?_
  | with_reducible refine' g_part ?_
  | with_reducible refine' g_partE ?_
  | with_reducible refine' g_sl ?_
  | ((with_reducible refine' g_slE ?h1 ?h2 ?h3 ?_); (case h1 => exact rfl); (case h2 => exact rfl); (case h3 => walk_at "dl"))
  | with_reducible refine' g_dget ?_
  | ((with_reducible refine' g_dgetS ?h1 ?h2 ?h3 ?_); (case h1 => exact rfl); (case h2 => first | assumption | exact rfl); (case h3 => exact rfl))
  | ((with_reducible refine' g_dgetI ?h1 ?h2 ?h3 ?_); (case h1 => exact rfl); (case h2 => first | assumption | exact rfl); (case h3 => exact rfl))
  | with_reducible refine' g_din ?_
  | ((with_reducible refine' g_dinS ?h1 ?h2 ?_); (case h1 => exact rfl); (case h2 => exact rfl))
  | ((with_reducible refine' g_ninS ?h1 ?h2 ?_); (case h1 => exact rfl); (case h2 => exact rfl))
  | ((with_reducible refine' g_dinI ?h1 ?h2 ?_); (case h1 => exact rfl); (case h2 => exact rfl))
  | ((with_reducible refine' g_ninI ?h1 ?h2 ?_); (case h1 => exact rfl); (case h2 => exact rfl))
  | with_reducible refine' g_dg2 ?_
  | ((with_reducible refine' g_dg2E ?h1 ?_); (case h1 => exact rfl))
  | ((with_reducible refine' g_dg2S' ?h1 ?h2 ?h3 ?_); (case h1 => exact rfl); (case h2 => assumption); (case h3 => exact rfl))
  | ((with_reducible refine' g_dg2I' ?h1 ?h2 ?h3 ?_); (case h1 => exact rfl); (case h2 => assumption); (case h3 => exact rfl))
  | ((with_reducible refine' g_dg2S ?h1 ?h2 ?_); (case h1 => exact rfl); (case h2 => exact rfl))
  | ((with_reducible refine' g_dg2I ?h1 ?h2 ?_); (case h1 => exact rfl); (case h2 => exact rfl))
  | with_reducible refine' g_dg1 ?_
  | ((with_reducible refine' g_dg1E ?h1 ?_); (case h1 => exact rfl))
  | ((with_reducible refine' g_dg1S' ?h1 ?h2 ?h3 ?_); (case h1 => exact rfl); (case h2 => assumption); (case h3 => exact rfl))
  | ((with_reducible refine' g_dg1S ?h1 ?h2 ?_); (case h1 => exact rfl); (case h2 => exact rfl))
  | ((with_reducible refine' g_dg1I ?h1 ?h2 ?_); (case h1 => exact rfl); (case h2 => exact rfl))
  | with_reducible refine' g_ch ?_
  | ((with_reducible refine' g_chE ?h1 ?_); (case h1 => walk_at "rel"))
  | ((with_reducible refine' g_chF ?h1 ?_); (case h1 => walk_at "rel"))
  | with_reducible refine' g_tru ?_
  | ((with_reducible refine' g_truE ?h1 ?h2 ?h3 ?_); (case h1 => exact rfl); (case h2 => exact rfl); (case h3 => constructor))
  | with_reducible refine' g_dropV ?_
  | ((with_reducible refine' g_dropE ?h1 ?_); (case h1 => exact rfl); try walk_at "ev")
  | with_reducible refine' g_asgV ?_
  | ((with_reducible refine' g_name ?h1 ?h2 ?_); (case h1 => exact rfl); (case h2 => first | ((walk_at "ev"); exact rfl) | ((walk_at "ev"); done) | exact rfl))
  | ((with_reducible refine' g_gtup ?h1 ?_); (case h1 => exact rfl))
  | with_reducible refine' g_gnil ?_
  | with_reducible refine' g_gcons ?_
  | with_reducible refine' g_gix ?_
  | ((with_reducible refine' g_gixE ?h1 ?h2 ?_); (case h1 => exact rfl); (case h2 => first | assumption | exact rfl); try walk_at "ev")
  | with_reducible refine' g_dput ?_
  | ((with_reducible refine' g_dputS ?h1 ?h2 ?h3 ?_); (case h1 => exact rfl); (case h2 => walk_at "sd"); (case h3 => exact rfl); try walk_at "ev")
  | ((with_reducible refine' g_dputI ?h1 ?h2 ?h3 ?_); (case h1 => exact rfl); (case h2 => walk_at "sd"); (case h3 => exact rfl); try walk_at "ev")
  | ((with_reducible refine' g_aug ?h1 ?_); (case h1 => exact rfl))
  | ((with_reducible refine' g_augE ?h1 ?h2 ?h3 ?h4 ?h5 ?_); (case h1 => exact rfl); (case h2 => exact rfl); (case h3 => walk_at "rel"); (case h4 => exact rfl); (case h5 => first | ((walk_at "ev"); exact rfl) | ((walk_at "ev"); done) | exact rfl))
  | with_reducible refine' g_par ?_
  | ((with_reducible refine' g_parE ?h1 ?h2 ?h3 ?h4 ?_); (case h1 => exact rfl); (case h2 => exact rfl); (case h3 => exact rfl); (case h4 => first | ((walk_at "ev"); exact rfl) | ((walk_at "ev"); done) | exact rfl))
  | with_reducible refine' g_iR1 ?_
  | ((with_reducible refine' g_r1E ?h1 ?_); (case h1 => walk_at "sd"))
  | with_reducible refine' g_iR2 ?_
  | ((with_reducible refine' g_r2E ?h1 ?_); (case h1 => walk_at "sd"))
  | with_reducible refine' g_iL ?_
  | ((with_reducible refine' g_iLE ?h1 ?h2 ?_); (case h1 => exact rfl); (case h2 => walk_at "dl"))
  | with_reducible refine' g_iT ?_
  | ((with_reducible refine' g_iTE ?h1 ?h2 ?_); (case h1 => exact rfl); (case h2 => exact .d _))
  | with_reducible refine' g_iS ?_
  | with_reducible refine' g_iSE ?_
  | with_reducible refine' g_iE ?_
  | ((with_reducible refine' g_iEE ?h1 ?h2 ?_); (case h1 => exact rfl); (case h2 => walk_at "dl"))
  | with_reducible refine' g_for ?_
  | with_reducible refine' g_comp ?_
  | with_reducible refine' g_yes ?_
  | ((with_reducible refine' g_accV ?h1 ?_); (case h1 => walk_at "sd"))
  | with_reducible refine' g_nxS ?_
  | with_reducible refine' g_nxF ?_
  | with_reducible refine' g_nxW ?_
  | with_reducible refine' g_rtS ?_
  | with_reducible refine' g_rtF ?_
  | with_reducible refine' g_rtW ?_
  | ((with_reducible refine' g_ownE ?h1 ?_); (case h1 => exact .mv rfl); try walk_at "ev")
  | with_reducible refine' g_bk ?_
  | with_reducible refine' g_ct ?_
  | with_reducible refine' g_bkS ?_
  | with_reducible refine' g_bkF ?_
  | with_reducible refine' g_bkW ?_
  | with_reducible refine' g_nxK ?_
  | with_reducible refine' g_ctK ?_
  | ((with_reducible refine' g_rtK ?h1 ?_); (case h1 => (simp only [List.length_cons, List.length_nil, List.length_set]; omega)); try walk_at "ev")
  | ((with_reducible refine' g_bkK ?h1 ?_); (case h1 => (simp only [List.length_cons, List.length_nil, List.length_set]; omega)); try walk_at "ev")
  | with_reducible refine' g_ctS ?_
  | with_reducible refine' g_ctF ?_
  | with_reducible refine' g_ctW ?_)
local macro_rules | `(tactic| walk_at "go") => `(tactic| repeat walk_at "g1")
local macro_rules | `(tactic| walk_at "end") => `(tactic| first
  | ((with_reducible refine' g_end ?h1 ?h2 ?h3 ?_); (case h1 => first | exact .v _ _ | exact .mv rfl); (case h2 => exact rfl); (case h3 => exact rfl))
  | ((with_reducible refine' g_endN ?h2 ?h3 ?_); (case h2 => exact rfl); (case h3 => exact rfl)))
/-! the family of helpers _law_source, _law_draw, _law_mixed, _law_keys, _law_drawn_run (k05 .. k10, k62 .. k64, k72) -/
/-- _law_source: slots 0 script 1 k 2 cell -/
abbrev r_source_1 : TSA := (tRet (tLst (tCons (tOwn (tCB MaxR (tCons (tK (.d (.int 0))) (tCons (tBin SubR (tCB AbsR (tCons (tVar 2) tNil)) (tBin PowR (tK (.d (.int 10))) (tK (.d (.int 18))))) tNil)))) (tCons (tOwn (tBin AddR (tBin AddR (tBin MulR (tBin ModR (tVar 2) (tBin AddR (tBin PowR (tK (.d (.int 10))) (tK (.d (.int 41)))) (tK (.d (.int 109))))) (tK (.d (.int 83)))) (tBin MulR (tK (.d (.int 17))) (tVar 1))) (tK (.d (.int 3))))) (tCons (tOwn (tK (.d (.int 0)))) tNil)))))
abbrev r_source_0 : TSA := tSeq (tAsg (tIf (tBl (tBin LtR (tVar 1) (tCB LenR (tCons (tVar 0) tNil)))) (tBin IxW (tVar 0) (tVar 1)) (tK (.d (.int 0)))) (gName 2)) r_source_1
/-- _law_draw: slots 0 source 1 many 2 found 3 ground -/
abbrev r_draw_0a_2 : TSA := (tRet (tVar 2))
abbrev r_draw_0a_1 : TSA := tSeq (tAsg (tBin FdR (tBin IxW (tVar 0) (tK (.d (.int 0)))) (tVar 1)) (gIx (tVar 0) (tK (.d (.int 0))))) r_draw_0a_2
abbrev r_draw_0a_0 : TSA := tSeq (tAsg (tBin ModR (tBin IxW (tVar 0) (tK (.d (.int 0)))) (tVar 1)) (gName 2)) r_draw_0a_1
abbrev r_draw_4 : TSA := (tRet (tBin ModR (tBin FdR (tVar 3) (tK (.d (.int 999979)))) (tVar 1)))
abbrev r_draw_3 : TSA := tSeq (tAsg (tBin ModR (tBin PowR (tBin AddR (tVar 3) (tBin MulR (tK (.d (.int 49979687))) (tBin IxW (tVar 0) (tK (.d (.int 2)))))) (tK (.d (.int 3)))) (tBin AddR (tBin PowR (tK (.d (.int 10))) (tK (.d (.int 38)))) (tK (.d (.int 133))))) (gName 3)) r_draw_4
abbrev r_draw_2 : TSA := tSeq (tAsg (tBin ModR (tBin PowR (tBin AddR (tBin IxW (tVar 0) (tK (.d (.int 1)))) (tBin MulR (tBin MulR (tK (.d (.int 32452843))) (tBin IxW (tVar 0) (tK (.d (.int 2))))) (tBin IxW (tVar 0) (tK (.d (.int 2)))))) (tK (.d (.int 3)))) (tBin AddR (tBin PowR (tK (.d (.int 10))) (tK (.d (.int 40)))) (tK (.d (.int 121))))) (gName 3)) r_draw_3
abbrev r_draw_1 : TSA := tSeq (tAsg (tBin AddR (tBin IxW (tVar 0) (tK (.d (.int 2)))) (tK (.d (.int 1)))) (gIx (tVar 0) (tK (.d (.int 2))))) r_draw_2
abbrev r_draw_0 : TSA := tSeq (tIfS (tBl (tBin GtR (tBin IxW (tVar 0) (tK (.d (.int 0)))) (tK (.d (.int 0))))) r_draw_0a_0 tNext) r_draw_1
theorem rd_draw {ws : List W} {Q : W → List W → Prop} (h : sp_draw ws Q) : r_draw_0 (endsW [0] ws Q) (startW ["source", "many", "found", "ground"] ws) := by
  obtain ⟨⟨a, b, c⟩, n, m, rfl, ⟨ha, hb, hb2, hc, hc2⟩, hn, hm, hm2, h⟩ := h
  dsimp only at ha hb hb2 hc hc2
  show r_draw_0 _ [some (Src ⟨a, b, c⟩), some (.d (.int m)), none, none]
  walk_at "go"
  refine g_ifD (fun hpos => ?_) (fun hneg => ?_)
  · walk_at "go"
    walk_at "end"
    exact h ⟨a / m, b, c⟩ _ ⟨Int.ediv_nonneg ha (by omega), hb, hb2, hc, by show c ≤ _; omega⟩ (emod_ge' hm) (emod_lt' hm)
  · have e0 : 0 ≤ c + 1 := by omega
    have p1 : 0 ≤ (c + 1) * (c + 1) := Int.mul_nonneg e0 e0
    have p2 : (c + 1) * (c + 1) ≤ 2 ^ 41 * 2 ^ 41 := Int.mul_le_mul (by omega) (by omega) e0 (by decide)
    have p3 : 32452843 * (c + 1) * (c + 1) = 32452843 * ((c + 1) * (c + 1)) := Int.mul_assoc _ _ _
    have p4 : -(2 : Int) ^ 250 < b + 32452843 * (c + 1) * (c + 1) ∧ b + 32452843 * (c + 1) * (c + 1) < (2 : Int) ^ 250 := by rw [p3]; omega
    walk_at "go"
    walk_at "end"
    exact h ⟨a, b, c + 1⟩ _ ⟨ha, hb, hb2, e0, by show c + 1 ≤ _; omega⟩ (emod_ge' hm) (emod_lt' hm)
theorem rd_source {ws : List W} {Q : W → List W → Prop} (h : sp_source ws Q) : r_source_0 (endsW [] ws Q) (startW ["script", "k", "cell"] ws) := by
  obtain ⟨ns, k, rfl, hl, hk, h⟩ := h
  show r_source_0 _ [some (.d (.list (ns.map PyData.int))), some (.d (.int k)), none]
  have fin : ∀ z : Int, Ok 0 ⟨if (if z < 0 then -z else z) - 10 ^ 18 > 0 then (if z < 0 then -z else z) - 10 ^ 18 else 0, z % (10 ^ 41 + 109) * 83 + 17 * (k : Int) + 3, 0⟩ := fun z => by
    have hm : (0 : Int) ≤ z % (10 ^ 41 + 109) := Int.emod_nonneg _ (by decide)
    have hm2 : z % (10 ^ 41 + 109) < 10 ^ 41 + 109 := Int.emod_lt_of_pos _ (by decide)
    exact ⟨max0 _, by dsimp only; omega, by dsimp only; omega, Int.le_refl 0, Int.le_refl 0⟩
  walk_at "go"
  refine g_ifD (fun hlt => ?_) (fun _ => ?_)
  · have e : (ns.map PyData.int)[k]? = some (.int (ns[k]'(by omega))) := by simp
    walk_at "go"
    walk_at "end"
    exact h ⟨_, _, _⟩ (fin _)
  · walk_at "go"
    walk_at "end"
    exact h ⟨_, _, _⟩ (fin 0)
/-! ## mixed -/
/-- _law_mixed: slots 0 source 1 items 2 left 3 k -/
abbrev r_mixed_1 : TSA := (tRet (tComp [3] (iR1 (tCons (tCB LenR (tCons (tVar 1) tNil)) tNil)) (gName 3) tYesA (tMut "list" PopAtR (tVar 2) (tCons (tOwn (tCall sp_draw (tCons (tLend (tVar 0)) (tCons (tCB LenR (tCons (tVar 2) tNil)) tNil)))) tNil))))
abbrev r_mixed_0 : TSA := tSeq (tAsg (tCB ListR (tCons (tVar 1) tNil)) (gName 2)) r_mixed_1
theorem rd_mixed {ws : List W} {Q : W → List W → Prop} (h : sp_mixed ws Q) : r_mixed_0 (endsW [0, 1] ws Q) (startW ["source", "items", "left", "k"] ws) := by
  obtain ⟨s, n, ds, rfl, ok, hn, hl, h⟩ := h
  have big := lineBig
  show r_mixed_0 _ [some (Src s), some (.lst (ds.map W.d)), none, none]
  walk_at "go"
  refine g_compV (fun i acc ε => ∃ (s' : Sou) (left es : List PyData), ε = [some (Src s'), some (.lst (ds.map W.d)), some (.lst (left.map W.d)), none] ∧ acc = es.map W.d ∧ es.length = i ∧ (es ++ left).Perm ds ∧ Ok (n + i) s') ⟨s, ds, [], rfl, rfl, rfl, by simp, ok⟩ ?_ ?_
  · rintro i d acc ε hd ⟨s', left, es, rfl, rfl, rfl, hp, ok'⟩
    have ln : es.length + left.length = ds.length := by have := hp.length_eq; rwa [List.length_append] at this
    have hil : es.length < ds.length := by
      have := (rngD_get hd).1
      simpa using this
    walk_at "go"
    refine go_draw ok' (by omega) (by omega) fun s2 r ok2 r0 r1 => ?_
    have pa := popAt r0 r1 (by omega)
    have hr : r.toNat < left.length := by omega
    walk_at "go"
    refine ⟨s2, left.eraseIdx r.toNat, es ++ [left[r.toNat]], rfl, by simp, by simp, ?_, ok2⟩
    rw [List.append_assoc]
    exact ((perm_at hr).append_left es).trans hp
  · rintro acc ε ⟨s', left, es, rfl, rfl, he, hp, ok'⟩
    have ln : es.length + left.length = ds.length := by have := hp.length_eq; rwa [List.length_append] at this
    rw [rngD_len] at he ok'
    have hz : left = [] := List.eq_nil_of_length_eq_zero (by omega)
    subst hz
    rw [List.append_nil] at hp
    walk_at "go"
    walk_at "end"
    exact h s' es (by simpa using ok') hp
/-! ## keys -/
/-- the words that keys are drawn from -/
def pool : List Str := ("abcdefghijklmnopqrstuvwxyz" : Str).cps.toList.map (fun c => (⟨#[c]⟩ : Str)) ++ (["a1", "a_", "ab", "abc_de_fg_12", "abc_de_fg_13", "write", "send"] : List Str) ++ (["log", "none", "any", "z9", "zz", "undo", "sure"] : List Str)
def sp_keys : SpW := fun ws Q => ∃ (s : Sou) (n : Nat) (m : Int), ws = [Src s, .d (.int m)] ∧ Ok n s ∧ n + 100 < 2 ^ 40 ∧ 0 < m ∧ m < 2 ^ 100 ∧
  ∀ (s' : Sou) (ks : List Str), Ok (n + 41) s' → ks ≠ [] → ks.Nodup → (∀ x ∈ ks, x ∈ pool) → ks.length ≤ m → Q (kW ks) [Src s', .d (.int m)]
theorem len_keys {ws : List W} {Q : W → List W → Prop} (h : sp_keys ws Q) : ws.length = 2 := by obtain ⟨_, _, _, rfl, _⟩ := h; rfl
theorem mono_keys : SpW.Mono sp_keys := fun ws Q Q' h ⟨s, n, m, e, h1, h2, h3, h4, q⟩ => ⟨s, n, m, e, h1, h2, h3, h4, fun s' ks x1 x2 x3 x4 x5 => h _ _ (q s' ks x1 x2 x3 x4 x5)⟩
/-- _law_keys: slots 0 source 1 most 2 pool -/
abbrev r_keys_2 : TSA := (tRet (tSlL (tCall sp_mixed (tCons (tLend (tVar 0)) (tCons (tLend (tVar 2)) tNil))) tNoPart (tPart (tBin AddR (tK (.d (.int 1))) (tCall sp_draw (tCons (tLend (tVar 0)) (tCons (tLend (tVar 1)) tNil)))))))
abbrev r_keys_1 : TSA := tSeq (tAsg (tBin AddR (tVar 2) (tLst (tCons (tOwn (tK (.d (.str "log")))) (tCons (tOwn (tK (.d (.str "none")))) (tCons (tOwn (tK (.d (.str "any")))) (tCons (tOwn (tK (.d (.str "z9")))) (tCons (tOwn (tK (.d (.str "zz")))) (tCons (tOwn (tK (.d (.str "undo")))) (tCons (tOwn (tK (.d (.str "sure")))) tNil))))))))) (gName 2)) r_keys_2
abbrev r_keys_0 : TSA := tSeq (tAsg (tBin AddR (tCB ListSR (tCons (tK (.d (.str "abcdefghijklmnopqrstuvwxyz"))) tNil)) (tLst (tCons (tOwn (tK (.d (.str "a1")))) (tCons (tOwn (tK (.d (.str "a_")))) (tCons (tOwn (tK (.d (.str "ab")))) (tCons (tOwn (tK (.d (.str "abc_de_fg_12")))) (tCons (tOwn (tK (.d (.str "abc_de_fg_13")))) (tCons (tOwn (tK (.d (.str "write")))) (tCons (tOwn (tK (.d (.str "send")))) tNil))))))))) (gName 2)) r_keys_1
theorem rd_keys {ws : List W} {Q : W → List W → Prop} (h : sp_keys ws Q) : r_keys_0 (endsW [0] ws Q) (startW ["source", "most", "pool"] ws) := by
  obtain ⟨s, n, m, rfl, ok, hn, hm, hm2, h⟩ := h
  have big := lineBig
  show r_keys_0 _ [some (Src s), some (.d (.int m)), none]
  walk_at "go"
  have ep : chD "abcdefghijklmnopqrstuvwxyz" ++ [PyData.str "a1", .str "a_", .str "ab", .str "abc_de_fg_12", .str "abc_de_fg_13", .str "write", .str "send"] ++ [PyData.str "log", .str "none", .str "any", .str "z9", .str "zz", .str "undo", .str "sure"] = pool.map PyData.str := by
    simp [pool, chD]
  have lp : pool.length = 40 := by decide
  rw [ep]
  refine go_mixed ok (by simp [lp]; omega) (by simp [lp]) fun s' es ok' hp => ?_
  obtain ⟨ks, pk, rfl⟩ := strs_perm hp
  have lk : ks.length = 40 := by rw [pk.length_eq, lp]
  have ok' : Ok (n + 40) s' := by simpa [lp] using ok'
  walk_at "go"
  refine go_draw ok' (by omega) ⟨hm, hm2⟩ fun s2 r ok2 r0 r1 => ?_
  walk_at "go"
  walk_at "end"
  obtain ⟨j, rfl⟩ := Int.eq_ofNat_of_zero_le r0
  have ec : Ab.cutD (ks.map PyData.str) none (some (1 + (j : Int))) = (ks.take (1 + j)).map PyData.str := by
    rw [show (1 + (j : Int)) = ((1 + j : Nat) : Int) by omega, cut_to, List.map_take]
  rw [ec]
  refine h s2 (ks.take (1 + j)) ok2 ?_ ?_ ?_ ?_
  · intro z
    have e0 : (ks.take (1 + j)).length = 0 := by rw [z]; rfl
    rw [List.length_take, lk] at e0
    omega
  · exact ((List.take_sublist _ _).nodup (pk.nodup_iff.mpr (by decide +kernel)))
  · exact fun x hx => pk.subset (List.mem_of_mem_take hx)
  · rw [List.length_take]
    omega
/-! ## drawn runs -/
def sp_drawn : SpW := fun ws Q => ∃ (s : Sou) (n : Nat) (ks : List Str) (m : Nat) (wk : W), ws = [Src s, wk, .d (.int m)] ∧ DL wk (ks.map PyData.str) ∧ Ok n s ∧ n + 4000 < 2 ^ 40 ∧ ks ≠ [] ∧ ks.length ≤ 100000 ∧ (∀ x ∈ ks, PyData.strOk x = true) ∧ m ≤ 1000 ∧
  ∀ (s' : Sou) (es : List Ev) (wt : List Str), Ok (n + 1 + 3 * m) s' → play [] es = some wt → es.length = m → (∀ k, some k ∈ es → k ∈ ks) → Q (eW es) [Src s', wk, .d (.int m)]
theorem len_drawn {ws : List W} {Q : W → List W → Prop} (h : sp_drawn ws Q) : ws.length = 3 := by obtain ⟨_, _, _, _, _, rfl, _⟩ := h; rfl
theorem mono_drawn : SpW.Mono sp_drawn := fun ws Q Q' h ⟨s, n, ks, m, wk, e, h0, h1, h2, h3, h4, h5, h6, q⟩ => ⟨s, n, ks, m, wk, e, h0, h1, h2, h3, h4, h5, h6, fun s' es wt x1 x2 x3 x4 => h _ _ (q s' es wt x1 x2 x3 x4)⟩
/-- _law_drawn_run: slots 0 source 1 keys 2 many 3 found 4 waiting 5 lean 6 turn 7 key -/
abbrev r_drawn_1c_0a_1 : TSA := (tDrop (tMut "list" AppR (tVar 3) (tCons (tOwn (tTup (tCons (tOwn (tK (.d (.str "send")))) tNil))) tNil)))
abbrev r_drawn_1c_0a_0 : TSA := tSeq (tDrop (tMut "list" Pop0R (tVar 4) (tCons (tOwn (tK (.d (.int 0)))) tNil))) r_drawn_1c_0a_1
abbrev r_drawn_1c_0b_1a_0 : TSA := (tAsg (tBin IxW (tVar 4) (tK (.d (.int 0)))) (gName 7))
abbrev r_drawn_1c_0b_3a_0 : TSA := (tDrop (tMut "list" AppR (tVar 4) (tCons (tOwn (tVar 7)) tNil)))
abbrev r_drawn_1c_0b_3 : TSA := (tIfS (tBl (tBin (InR true) (tVar 7) (tVar 4))) r_drawn_1c_0b_3a_0 tNext)
def r_drawn_1c_0b_2 : TSA := tSeq (tDrop (tMut "list" AppR (tVar 3) (tCons (tOwn (tTup (tCons (tOwn (tK (.d (.str "write")))) (tCons (tOwn (tVar 7)) tNil)))) tNil))) r_drawn_1c_0b_3
abbrev r_drawn_1c_0b_1 : TSA := tSeq (tIfS (tAnd (tBl (tBin NeR (tVar 4) (tLst tNil))) (tBl (tBin EqR (tCall sp_draw (tCons (tLend (tVar 0)) (tCons (tK (.d (.int 4))) tNil))) (tK (.d (.int 0)))))) r_drawn_1c_0b_1a_0 tNext) r_drawn_1c_0b_2
def r_drawn_1c_0b_0 : TSA := tSeq (tAsg (tBin IxW (tVar 1) (tCall sp_draw (tCons (tLend (tVar 0)) (tCons (tCB LenR (tCons (tVar 1) tNil)) tNil)))) (gName 7)) r_drawn_1c_0b_1
abbrev r_drawn_1c_0 : TSA := (tIfS (tAnd (tBl (tBin NeR (tVar 4) (tLst tNil))) (tBl (tBin GtR (tCall sp_draw (tCons (tLend (tVar 0)) (tCons (tBin AddR (tVar 5) (tK (.d (.int 1)))) tNil))) (tK (.d (.int 0)))))) r_drawn_1c_0a_0 r_drawn_1c_0b_0)
abbrev r_drawn_2 : TSA := (tRet (tVar 3))
abbrev r_drawn_1 : TSA := tSeq (tFor [0, 1] (iR1 (tCons (tVar 2) tNil)) (gName 6) r_drawn_1c_0) r_drawn_2
abbrev r_drawn_0 : TSA := tSeq (tParA [3, 4, 5] (tCons (tOwn (tLst tNil)) (tCons (tOwn (tLst tNil)) (tCons (tOwn (tBin IxW (tLst (tCons (tOwn (tK (.d (.int 1)))) (tCons (tOwn (tK (.d (.int 2)))) (tCons (tOwn (tK (.d (.int 5)))) tNil)))) (tCall sp_draw (tCons (tLend (tVar 0)) (tCons (tK (.d (.int 3))) tNil))))) tNil)))) r_drawn_1

theorem rd_drawnL {s : Sou} {n : Nat} {ks : List Str} {m : Nat} {Q : W → List W → Prop} (ok : Ok n s) (hn : n + 4000 < 2 ^ 40) (hks : ks ≠ []) (hkl : ks.length ≤ 100000) (hok : ∀ x ∈ ks, PyData.strOk x = true) (hm : m ≤ 1000)
    (h : ∀ (s' : Sou) (es : List Ev) (wt : List Str), Ok (n + 1 + 3 * m) s' → play [] es = some wt → es.length = m → (∀ k, some k ∈ es → k ∈ ks) → Q (eW es) [Src s', kW ks, .d (.int m)]) :
    r_drawn_0 (endsW [0, 1] [Src s, kW ks, .d (.int m)] Q) (startW ["source", "keys", "many", "found", "waiting", "lean", "turn", "key"] [Src s, kW ks, .d (.int m)]) := by
  have big := lineBig
  have kpos : 0 < ks.length := List.length_pos_iff.mpr hks
  show r_drawn_0 _ [some (Src s), some (kW ks), some (.d (.int m)), none, none, none, none, none]
  walk_at "go"
  refine go_draw ok (by omega) (by omega) fun s1 r ok1 r0 r1 => ?_
  obtain ⟨ln, hln, hl1, hl2⟩ : ∃ ln : Int, atI [PyData.int 1, .int 2, .int 5] r = some (.int ln) ∧ 1 ≤ ln ∧ ln ≤ 5 := by
    have : r = 0 ∨ r = 1 ∨ r = 2 := by omega
    rcases this with rfl | rfl | rfl
    · exact ⟨1, rfl, by decide, by decide⟩
    · exact ⟨2, rfl, by decide, by decide⟩
    · exact ⟨5, rfl, by decide, by decide⟩
  walk_at "go"
  refine g_forV (fun i ε => ∃ (s' : Sou) (es : List Ev) (wt : List Str) (x6 x7 : Option W), ε = [some (Src s'), some (kW ks), some (.d (.int m)), some (eW es), some (kW wt), some (.d (.int ln)), x6, x7] ∧ Ok (n + 1 + 3 * i) s' ∧ play [] es = some wt ∧ es.length = i ∧ (∀ k, some k ∈ es → k ∈ ks) ∧ (∀ x ∈ wt, x ∈ ks))
    ⟨s1, [], [], _, _, rfl, ok1, rfl, rfl, by simp, by simp⟩ ?_ ?_
  · rintro i d ε hd ⟨s', es, wt, x6, x7, rfl, ok', hp, hi, hk, hw⟩
    have him : i < m := by have := (rngD_get hd).1; simpa using this
    have hwok : ∀ x ∈ wt, PyData.strOk x = true := fun x hx => hok x (hw x hx)
    have hne := ne_nil hwok
    have wl : wt.length ≤ i := by have := play_len hp; simp at this; omega
    have le : (es.map evD).length < sizeLine := by rw [List.length_map]; omega
    have lw : (wt.map PyData.str).length < sizeLine := by rw [List.length_map]; omega
    -- the last part: the key is written
    have last : ∀ (D : EndsA) (s2 : Sou) (key : Str) (x6 : Option W), (∀ es wt x7, play [] es = some wt → es.length = i + 1 → (∀ k, some k ∈ es → k ∈ ks) → (∀ x ∈ wt, x ∈ ks) → NxE D [some (Src s2), some (kW ks), some (.d (.int m)), some (eW es), some (kW wt), some (.d (.int ln)), x6, x7]) →
        key ∈ ks → r_drawn_1c_0b_2 D [some (Src s2), some (kW ks), some (.d (.int m)), some (eW es), some (kW wt), some (.d (.int ln)), x6, some (.d (.str key))] := by
      intro D s2 key x6 hD hkey
      have hk' : ∀ k, some k ∈ es ++ [some key] → k ∈ ks := by
        intro k hk'
        rcases List.mem_append.mp hk' with z | z
        · exact hk k z
        · simp at z; rw [z]; exact hkey
      have app : AppR (eW es) [.d (evD (some key))] (eW (es ++ [some key])) (.d .none) := by
        have := AppR.D (ds := es.map evD) (d := evD (some key)) le
        rwa [show es.map evD ++ [evD (some key)] = (es ++ [some key]).map evD by simp] at this
      have appS : AppR (kW wt) [.d (.str key)] (kW (wt ++ [key])) (.d .none) := by
        have := AppR.D (ds := wt.map PyData.str) (d := .str key) lw
        rwa [show wt.map PyData.str ++ [PyData.str key] = (wt ++ [key]).map PyData.str by simp] at this
      have pw := play_write (k := key) hp
      unfold r_drawn_1c_0b_2
      walk_at "go"
      refine g_ifD (fun hin => ?_) (fun hin => ?_)
      · walk_at "go"
        rw [if_pos hin] at pw
        exact hD _ _ _ pw (by simp [hi]) hk' hw
      · walk_at "go"
        rw [if_neg hin] at pw
        refine hD _ _ _ pw (by simp [hi]) hk' fun x hx => ?_
        rcases List.mem_append.mp hx with z | z
        · exact hw x z
        · simp at z; rw [z]; exact hkey
    -- a key is drawn and written
    have stepB : ∀ (D : EndsA) (s2 : Sou) (x6 : Option W), Ok (n + 1 + 3 * i + 1) s2 → (∀ s3 es wt x7, Ok (n + 1 + 3 * (i + 1)) s3 → play [] es = some wt → es.length = i + 1 → (∀ k, some k ∈ es → k ∈ ks) → (∀ x ∈ wt, x ∈ ks) → NxE D [some (Src s3), some (kW ks), some (.d (.int m)), some (eW es), some (kW wt), some (.d (.int ln)), x6, x7]) →
        r_drawn_1c_0b_0 D [some (Src s2), some (kW ks), some (.d (.int m)), some (eW es), some (kW wt), some (.d (.int ln)), x6, x7] := by
      intro D s2 x6 ok2 hD
      unfold r_drawn_1c_0b_0
      walk_at "go"
      refine go_draw ok2 (by omega) (by omega) fun s3 r ok3 r0 r1 => ?_
      have hat := at_str r0 r1
      have hkey : ks[r.toNat]'(by omega) ∈ ks := List.getElem_mem _
      walk_at "go"
      cases wt with
      | nil =>
        walk_at "go"
        exact last _ _ _ _ (fun es wt x7 h1 h2 h3 h4 => hD _ _ _ _ (ok3.mono (by omega)) h1 h2 h3 h4) hkey
      | cons y wt =>
        walk_at "go"
        refine go_draw ok3 (by omega) (by omega) fun s4 r' ok4 r0' r1' => ?_
        walk_at "go"
        refine g_ifD (fun hz => ?_) (fun hz => ?_)
        · have h0 : atI ((y :: wt).map PyData.str) 0 = some (.str y) := at_str (xs := y :: wt) (n := 0) (by decide) (by rw [List.length_cons]; omega)
          walk_at "go"
          exact last _ _ _ _ (fun es wt x7 h1 h2 h3 h4 => hD _ _ _ _ (ok4.mono (by omega)) h1 h2 h3 h4) (hw _ List.mem_cons_self)
        · walk_at "go"
          exact last _ _ _ _ (fun es wt x7 h1 h2 h3 h4 => hD _ _ _ _ (ok4.mono (by omega)) h1 h2 h3 h4) hkey
    walk_at "go"
    cases wt with
    | nil =>
      walk_at "go"
      refine stepB _ _ _ (ok'.mono (by omega)) fun s3 es wt x7 h0 h1 h2 h3 h4 => ?_
      walk_at "go"
      exact ⟨s3, es, wt, _, _, rfl, h0, h1, h2, h3, h4⟩
    | cons y wt =>
      walk_at "go"
      refine go_draw ok' (by omega) (by omega) fun s4 r' ok4 r0' r1' => ?_
      walk_at "go"
      refine g_ifD (fun hz => ?_) (fun hz => ?_)
      · have pop : Pop0R (kW (y :: wt)) [.d (.int 0)] (kW wt) (.d (.str y)) := .mk (ds := wt.map PyData.str) (d := .str y)
        have app : AppR (eW es) [.d (.tuple [.str "send"])] (eW (es ++ [none])) (.d .none) := by
          have := AppR.D (ds := es.map evD) (d := evD none) le
          rwa [show es.map evD ++ [evD none] = (es ++ [none]).map evD by simp] at this
        walk_at "go"
        refine ⟨s4, es ++ [none], wt, _, _, rfl, ok4.mono (by omega), play_send hp, by simp [hi], fun k hk' => ?_, fun x hx => hw x (List.mem_cons_of_mem _ hx)⟩
        rcases List.mem_append.mp hk' with z | z
        · exact hk k z
        · simp at z
      · walk_at "go"
        refine stepB _ _ _ ok4 fun s3 es wt x7 h0 h1 h2 h3 h4 => ?_
        walk_at "go"
        exact ⟨s3, es, wt, _, _, rfl, h0, h1, h2, h3, h4⟩
  · rintro ε ⟨s', es, wt, x6, x7, rfl, ok', hp, hi, hk, hw⟩
    rw [rngD_len] at hi ok'
    walk_at "go"
    walk_at "end"
    exact h s' es wt (by simpa using ok') hp (by simpa using hi) hk
theorem rd_drawnD {s : Sou} {n : Nat} {ks : List Str} {m : Nat} {Q : W → List W → Prop} (ok : Ok n s) (hn : n + 4000 < 2 ^ 40) (hks : ks ≠ []) (hkl : ks.length ≤ 100000) (hok : ∀ x ∈ ks, PyData.strOk x = true) (hm : m ≤ 1000)
    (h : ∀ (s' : Sou) (es : List Ev) (wt : List Str), Ok (n + 1 + 3 * m) s' → play [] es = some wt → es.length = m → (∀ k, some k ∈ es → k ∈ ks) → Q (eW es) [Src s', .d (.list (ks.map PyData.str)), .d (.int m)]) :
    r_drawn_0 (endsW [0, 1] [Src s, .d (.list (ks.map PyData.str)), .d (.int m)] Q) (startW ["source", "keys", "many", "found", "waiting", "lean", "turn", "key"] [Src s, .d (.list (ks.map PyData.str)), .d (.int m)]) := by
  have big := lineBig
  have kpos : 0 < ks.length := List.length_pos_iff.mpr hks
  show r_drawn_0 _ [some (Src s), some (.d (.list (ks.map PyData.str))), some (.d (.int m)), none, none, none, none, none]
  walk_at "go"
  refine go_draw ok (by omega) (by omega) fun s1 r ok1 r0 r1 => ?_
  obtain ⟨ln, hln, hl1, hl2⟩ : ∃ ln : Int, atI [PyData.int 1, .int 2, .int 5] r = some (.int ln) ∧ 1 ≤ ln ∧ ln ≤ 5 := by
    have : r = 0 ∨ r = 1 ∨ r = 2 := by omega
    rcases this with rfl | rfl | rfl
    · exact ⟨1, rfl, by decide, by decide⟩
    · exact ⟨2, rfl, by decide, by decide⟩
    · exact ⟨5, rfl, by decide, by decide⟩
  walk_at "go"
  refine g_forV (fun i ε => ∃ (s' : Sou) (es : List Ev) (wt : List Str) (x6 x7 : Option W), ε = [some (Src s'), some (.d (.list (ks.map PyData.str))), some (.d (.int m)), some (eW es), some (kW wt), some (.d (.int ln)), x6, x7] ∧ Ok (n + 1 + 3 * i) s' ∧ play [] es = some wt ∧ es.length = i ∧ (∀ k, some k ∈ es → k ∈ ks) ∧ (∀ x ∈ wt, x ∈ ks))
    ⟨s1, [], [], _, _, rfl, ok1, rfl, rfl, by simp, by simp⟩ ?_ ?_
  · rintro i d ε hd ⟨s', es, wt, x6, x7, rfl, ok', hp, hi, hk, hw⟩
    have him : i < m := by have := (rngD_get hd).1; simpa using this
    have hwok : ∀ x ∈ wt, PyData.strOk x = true := fun x hx => hok x (hw x hx)
    have hne := ne_nil hwok
    have wl : wt.length ≤ i := by have := play_len hp; simp at this; omega
    have le : (es.map evD).length < sizeLine := by rw [List.length_map]; omega
    have lw : (wt.map PyData.str).length < sizeLine := by rw [List.length_map]; omega
    -- the last part: the key is written
    have last : ∀ (D : EndsA) (s2 : Sou) (key : Str) (x6 : Option W), (∀ es wt x7, play [] es = some wt → es.length = i + 1 → (∀ k, some k ∈ es → k ∈ ks) → (∀ x ∈ wt, x ∈ ks) → NxE D [some (Src s2), some (.d (.list (ks.map PyData.str))), some (.d (.int m)), some (eW es), some (kW wt), some (.d (.int ln)), x6, x7]) →
        key ∈ ks → r_drawn_1c_0b_2 D [some (Src s2), some (.d (.list (ks.map PyData.str))), some (.d (.int m)), some (eW es), some (kW wt), some (.d (.int ln)), x6, some (.d (.str key))] := by
      intro D s2 key x6 hD hkey
      have hk' : ∀ k, some k ∈ es ++ [some key] → k ∈ ks := by
        intro k hk'
        rcases List.mem_append.mp hk' with z | z
        · exact hk k z
        · simp at z; rw [z]; exact hkey
      have app : AppR (eW es) [.d (evD (some key))] (eW (es ++ [some key])) (.d .none) := by
        have := AppR.D (ds := es.map evD) (d := evD (some key)) le
        rwa [show es.map evD ++ [evD (some key)] = (es ++ [some key]).map evD by simp] at this
      have appS : AppR (kW wt) [.d (.str key)] (kW (wt ++ [key])) (.d .none) := by
        have := AppR.D (ds := wt.map PyData.str) (d := .str key) lw
        rwa [show wt.map PyData.str ++ [PyData.str key] = (wt ++ [key]).map PyData.str by simp] at this
      have pw := play_write (k := key) hp
      unfold r_drawn_1c_0b_2
      walk_at "go"
      refine g_ifD (fun hin => ?_) (fun hin => ?_)
      · walk_at "go"
        rw [if_pos hin] at pw
        exact hD _ _ _ pw (by simp [hi]) hk' hw
      · walk_at "go"
        rw [if_neg hin] at pw
        refine hD _ _ _ pw (by simp [hi]) hk' fun x hx => ?_
        rcases List.mem_append.mp hx with z | z
        · exact hw x z
        · simp at z; rw [z]; exact hkey
    -- a key is drawn and written
    have stepB : ∀ (D : EndsA) (s2 : Sou) (x6 : Option W), Ok (n + 1 + 3 * i + 1) s2 → (∀ s3 es wt x7, Ok (n + 1 + 3 * (i + 1)) s3 → play [] es = some wt → es.length = i + 1 → (∀ k, some k ∈ es → k ∈ ks) → (∀ x ∈ wt, x ∈ ks) → NxE D [some (Src s3), some (.d (.list (ks.map PyData.str))), some (.d (.int m)), some (eW es), some (kW wt), some (.d (.int ln)), x6, x7]) →
        r_drawn_1c_0b_0 D [some (Src s2), some (.d (.list (ks.map PyData.str))), some (.d (.int m)), some (eW es), some (kW wt), some (.d (.int ln)), x6, x7] := by
      intro D s2 x6 ok2 hD
      unfold r_drawn_1c_0b_0
      walk_at "go"
      refine go_draw ok2 (by omega) (by omega) fun s3 r ok3 r0 r1 => ?_
      have hat := at_str r0 r1
      have hkey : ks[r.toNat]'(by omega) ∈ ks := List.getElem_mem _
      walk_at "go"
      cases wt with
      | nil =>
        walk_at "go"
        exact last _ _ _ _ (fun es wt x7 h1 h2 h3 h4 => hD _ _ _ _ (ok3.mono (by omega)) h1 h2 h3 h4) hkey
      | cons y wt =>
        walk_at "go"
        refine go_draw ok3 (by omega) (by omega) fun s4 r' ok4 r0' r1' => ?_
        walk_at "go"
        refine g_ifD (fun hz => ?_) (fun hz => ?_)
        · have h0 : atI ((y :: wt).map PyData.str) 0 = some (.str y) := at_str (xs := y :: wt) (n := 0) (by decide) (by rw [List.length_cons]; omega)
          walk_at "go"
          exact last _ _ _ _ (fun es wt x7 h1 h2 h3 h4 => hD _ _ _ _ (ok4.mono (by omega)) h1 h2 h3 h4) (hw _ List.mem_cons_self)
        · walk_at "go"
          exact last _ _ _ _ (fun es wt x7 h1 h2 h3 h4 => hD _ _ _ _ (ok4.mono (by omega)) h1 h2 h3 h4) hkey
    walk_at "go"
    cases wt with
    | nil =>
      walk_at "go"
      refine stepB _ _ _ (ok'.mono (by omega)) fun s3 es wt x7 h0 h1 h2 h3 h4 => ?_
      walk_at "go"
      exact ⟨s3, es, wt, _, _, rfl, h0, h1, h2, h3, h4⟩
    | cons y wt =>
      walk_at "go"
      refine go_draw ok' (by omega) (by omega) fun s4 r' ok4 r0' r1' => ?_
      walk_at "go"
      refine g_ifD (fun hz => ?_) (fun hz => ?_)
      · have pop : Pop0R (kW (y :: wt)) [.d (.int 0)] (kW wt) (.d (.str y)) := .mk (ds := wt.map PyData.str) (d := .str y)
        have app : AppR (eW es) [.d (.tuple [.str "send"])] (eW (es ++ [none])) (.d .none) := by
          have := AppR.D (ds := es.map evD) (d := evD none) le
          rwa [show es.map evD ++ [evD none] = (es ++ [none]).map evD by simp] at this
        walk_at "go"
        refine ⟨s4, es ++ [none], wt, _, _, rfl, ok4.mono (by omega), play_send hp, by simp [hi], fun k hk' => ?_, fun x hx => hw x (List.mem_cons_of_mem _ hx)⟩
        rcases List.mem_append.mp hk' with z | z
        · exact hk k z
        · simp at z
      · walk_at "go"
        refine stepB _ _ _ ok4 fun s3 es wt x7 h0 h1 h2 h3 h4 => ?_
        walk_at "go"
        exact ⟨s3, es, wt, _, _, rfl, h0, h1, h2, h3, h4⟩
  · rintro ε ⟨s', es, wt, x6, x7, rfl, ok', hp, hi, hk, hw⟩
    rw [rngD_len] at hi ok'
    walk_at "go"
    walk_at "end"
    exact h s' es wt (by simpa using ok') hp (by simpa using hi) hk
theorem rd_drawn {ws : List W} {Q : W → List W → Prop} (h : sp_drawn ws Q) : r_drawn_0 (endsW [0, 1] ws Q) (startW ["source", "keys", "many", "found", "waiting", "lean", "turn", "key"] ws) := by
  obtain ⟨s, n, ks, m, wk, rfl, hwk, ok, hn, hks, hkl, hok, hm, h⟩ := h
  cases hwk with
  | d => exact rd_drawnD ok hn hks hkl hok hm h
  | L => exact rd_drawnL ok hn hks hkl hok hm h

end FamE

namespace Pk
open PySem PySem.Spec PyProof.Rows L2 Ab Lc

local macro_rules | `(tactic| walk_at "sd") => `(tactic| first | assumption | omega | exact True.intro | decide | (simp only [List.length_map, List.length_append, List.length_cons, List.length_nil, List.length_range, List.length_replicate]; omega))
local macro_rules | `(tactic| walk_at "dl") => `(tactic| first | assumption | exact .d _ | exact .L _ | exact DL.n | (apply DL.c; walk_at "dl"))
local macro_rules | `(tactic| walk_at "rfys") => `(tactic| first | exact .nil | (apply Rfys.cons; (walk_at "rfy"); (walk_at "rfys")))
local macro_rules | `(tactic| walk_at "rfy") => `(tactic| first | exact .d _ | exact .L _ | assumption | (apply Rfy.lst; walk_at "rfys"))
local macro_rules | `(tactic| walk_at "at") => `(tactic| first | assumption | exact rfl | (apply atI_nat; first | assumption | exact rfl))
local macro_rules | `(tactic| walk_at "rel") => `(tactic| first
  | assumption
  | exact .int
  | exact .str
  | exact .mk
  | exact .bool
  | ((refine' MulR.int ?k1); (case k1 => (refine' cmulA ?k2 ?k3; (case k2 => walk_at "sd"); (case k3 => walk_at "sd"))))
  | ((refine' MulR.str ?k1); (case k1 => walk_at "sd"))
  | ((refine' mulL ?k1 ?k2 ?k3); (case k1 => walk_at "dl"); (case k2 => walk_at "sd"); (case k3 => walk_at "sd"))
  | ((refine' IxW.S ?k1 ?k2); (case k1 => first | walk_at "sd" | decide +kernel); (case k2 => walk_at "at"))
  | ((refine' IntR.mk ?k1); (case k1 => first | walk_at "sd" | (refine' cdivA ?k2 ?k3; (case k2 => walk_at "sd"); (case k3 => walk_at "sd")) | (refine' cpow3A ?k2; (case k2 => walk_at "sd"))))
  | ((refine' IxW.L ?k1 ?k2); (case k1 => walk_at "dl"); (case k2 => walk_at "at"))
  | ((refine' IxW.T ?k1 ?k2); (case k1 => exact .d _); (case k2 => walk_at "at"))
  | exact lenM
  | exact lenD
  | ((refine' LenR.L ?k1); (case k1 => walk_at "dl"))
  | ((refine' LenR.T ?k1); (case k1 => exact .d _))
  | ((refine' LenR.S ?k1); (case k1 => walk_at "sd"))
  | ((refine' ListR.L ?k1); (case k1 => walk_at "dl"))
  | ((refine' ListR.T ?k1); (case k1 => exact .d _))
  | ((refine' ListSR.mk ?k1); (case k1 => first | walk_at "sd" | decide +kernel))
  | ((refine' InR.strL ?k1); (case k1 => walk_at "dl"))
  | ((refine' AddR.str ?k1); (case k1 => walk_at "sd"))
  | ((refine' AddR.lst ?k1 ?k2 ?k3); (case k1 => walk_at "dl"); (case k2 => walk_at "dl"); (case k3 => walk_at "sd"))
  | ((refine' AppR.D ?k1); (case k1 => walk_at "sd"))
  | ((refine' AppR.G ?k1); (case k1 => walk_at "sd"))
  | ((refine' ExtR.mk ?k1); (case k1 => walk_at "sd"))
  | exact .mk True.intro
  | ((refine' InsR.mk ?k1 ?k2 ?k3); (case k1 => walk_at "sd"); (case k2 => walk_at "sd"); (case k3 => walk_at "sd"))
  | ((refine' IsiR.mk ?k1 ?k2); (case k1 => exact rfl); (case k2 => exact rfl))
  | ((refine' JoinXR.L ?k1 ?k2); (case k1 => walk_at "dl"); (case k2 => walk_at "sd"))
  | ((refine' StR0.mk ?k1); (case k1 => walk_at "sd"))
  | ((refine' JoinR.L ?k1 ?k2); (case k1 => walk_at "dl"); (case k2 => walk_at "sd"))
  | ((refine' DPopR.mk ?k1); (case k1 => walk_at "sd"))
  | ((refine' StrR.int ?k1); (case k1 => walk_at "sd")))
local macro_rules | `(tactic| walk_at "pu") => `(tactic| first | exact rfl | (apply puts_v; walk_at "pu") | (apply puts_fl; (walk_at "pu"); exact rfl))
local macro_rules | `(tactic| walk_at "ev") => `(tactic| dsimp only [List.set_cons_zero, List.set_cons_succ, List.set_nil, putW, putP, setsW, Nat.reduceAdd, Nat.zero_add, Int.reduceToNat, restW, wipeW, keepW, plainW, List.getElem?_cons_zero, List.getElem?_cons_succ, ↓reduceIte])
local macro_rules | `(tactic| walk_at "g1") => `(tactic| first
  | with_reducible refine' g_seq ?_
  | with_reducible refine' g_asg ?_
  | with_reducible refine' g_drop ?_
  | with_reducible refine' g_ret ?_
  | with_reducible refine' g_retN ?_
  | with_reducible refine' g_ifS ?_
  | with_reducible refine' g_next ?_
  | with_reducible refine' g_bin ?_
  | with_reducible refine' g_K ?_
  | ((with_reducible refine' g_varD ?h1 ?_); (case h1 => exact rfl))
  | ((with_reducible refine' g_varL ?h1 ?_); (case h1 => exact rfl))
  | ((with_reducible refine' g_varK ?h1 ?_); (case h1 => exact rfl))
  | ((with_reducible refine' g_varI ?h1 ?_); (case h1 => exact rfl))
  | ((with_reducible refine' g_varV ?h1 ?_); (case h1 => exact rfl))
  | ((with_reducible refine' g_binPow ?h1 ?h2 ?_); (case h1 => first | exact ⟨by decide, by decide⟩ | (refine' cpowA ?k2 ?k3; (case k2 => walk_at "sd"); (case k3 => decide))); (case h2 => first | ((dsimp only [Int.reduceToNat]); done) | ((dsimp only [Int.reduceToNat]); exact rfl)))
  | ((with_reducible refine' g_binV ?h1 ?_); (case h1 => walk_at "rel"))
  | ((with_reducible refine' g_binE ?h1 ?h2 ?h3 ?h4 ?h5 ?_); (case h1 => exact rfl); (case h2 => exact rfl); (case h3 => exact rfl); (case h4 => exact rfl); (case h5 => walk_at "rel"); try walk_at "ev")
  | with_reducible refine' g_bl ?_
  | with_reducible refine' g_blE ?_
  | with_reducible refine' g_and ?_
  | with_reducible refine' g_or ?_
  | with_reducible refine' g_not ?_
  | with_reducible refine' g_if ?_
  | with_reducible refine' g_andV ?_
  | with_reducible refine' g_orV ?_
  | with_reducible refine' g_notV ?_
  | with_reducible refine' g_boE ?_
  | with_reducible refine' g_ifInT ?_
  | with_reducible refine' g_ifInF ?_
  | with_reducible refine' g_ifN ?_
  | ((with_reducible refine' g_ifT ?h1 ?_); (case h1 => exact rfl))
  | ((with_reducible refine' g_ifF ?h1 ?_); (case h1 => exact rfl))
  | ((with_reducible refine' g_ifDT ?h1 ?_); (case h1 => first | assumption | omega))
  | ((with_reducible refine' g_ifDF ?h1 ?_); (case h1 => first | assumption | omega))
  | with_reducible refine' g_nil ?_
  | with_reducible refine' g_cons ?_
  | with_reducible refine' g_cb ?_
  | ((with_reducible refine' g_cbE ?h1 ?h2 ?h3 ?_); (case h1 => exact rfl); (case h2 => exact rfl); (case h3 => walk_at "rel"))
  | with_reducible refine' g_mut ?_
  | ((with_reducible refine' g_mutB ?h1 ?h2 ?_); (case h1 => exact rfl); (case h2 => exact rfl))
  | ((with_reducible refine' g_mutE0 ?h1 ?h2 ?h3 ?_); (case h1 => exact rfl); (case h2 => walk_at "rel"); (case h3 => exact rfl); try walk_at "ev")
  | ((with_reducible refine' g_mutE1 ?h1 ?h2 ?h3 ?_); (case h1 => exact rfl); (case h2 => walk_at "rel"); (case h3 => exact rfl); try walk_at "ev")
  | ((with_reducible refine' g_mutE2 ?h1 ?h2 ?h3 ?_); (case h1 => exact rfl); (case h2 => walk_at "rel"); (case h3 => exact rfl); try walk_at "ev")
  | with_reducible refine' g_neg ?_
  | with_reducible refine' g_negE ?_
  | with_reducible refine' g_lv ?_
  | ((with_reducible refine' g_lvE ?h1 ?h2 ?h3 ?_); (case h1 => exact rfl); (case h2 => exact rfl); (case h3 => walk_at "sd"))
  | with_reducible refine' g_rd ?_
  | ((with_reducible refine' g_rdB ?h1 ?h2 ?_); (case h1 => exact rfl); (case h2 => exact rfl))
  | ((with_reducible refine' g_rdE ?h1 ?h2 ?h3 ?_); (case h1 => exact rfl); (case h2 => exact rfl); (case h3 => walk_at "rel"))
  | with_reducible refine' g_own ?_
  | with_reducible refine' g_ownV ?_
  | with_reducible refine' g_frz ?_
  | with_reducible refine' g_frzD ?_
  | ((with_reducible refine' g_frzV ?h1 ?_); (case h1 => walk_at "rfy"))
  | ((with_reducible refine' g_frzS ?h1 ?h2 ?_); (case h1 => exact rfl); (case h2 => walk_at "rfy"); try walk_at "ev")
  | with_reducible refine' g_lend ?_
  | with_reducible refine' g_lendV ?_
  | with_reducible refine' g_lendF ?_
  | ((with_reducible refine' g_lendS ?h1 (fun _ => ?_)); (case h1 => exact rfl); try walk_at "ev")
  | with_reducible refine' g_late ?_
  | with_reducible refine' g_lateN ?_
  | with_reducible refine' g_lateV ?_
  | with_reducible refine' g_lateF ?_
  | ((with_reducible refine' g_lateS ?h1 (fun _ => ?_)); (case h1 => exact rfl); try walk_at "ev")
  | with_reducible refine' g_call ?_
  | ((with_reducible refine' g_callE ?h1 ?_); (case h1 => exact rfl); try dsimp only)
  | ((with_reducible refine' g_putE ?h1 ?h2 ?_); (case h1 => exact rfl); (case h2 => walk_at "pu"); try walk_at "ev")
  | with_reducible refine' g_lst ?_
  | ((with_reducible refine' g_lstE ?h1 ?h2 ?_); (case h1 => exact rfl); (case h2 => exact rfl))
  | with_reducible refine' g_tup ?_
  | ((with_reducible refine' g_tupE ?h1 ?h2 ?h3 ?_); (case h1 => exact rfl); (case h2 => walk_at "rfys"); (case h3 => exact rfl))
  | with_reducible refine' g_noPart ?_
  | with_reducible refine' g_part ?_
  | with_reducible refine' g_partE ?_
  | with_reducible refine' g_sl ?_
  | ((with_reducible refine' g_slE ?h1 ?h2 ?h3 ?_); (case h1 => exact rfl); (case h2 => exact rfl); (case h3 => walk_at "dl"))
  | with_reducible refine' g_dget ?_
  | ((with_reducible refine' g_dgetS ?h1 ?h2 ?h3 ?_); (case h1 => exact rfl); (case h2 => first | assumption | exact rfl); (case h3 => exact rfl))
  | ((with_reducible refine' g_dgetI ?h1 ?h2 ?h3 ?_); (case h1 => exact rfl); (case h2 => first | assumption | exact rfl); (case h3 => exact rfl))
  | with_reducible refine' g_din ?_
  | ((with_reducible refine' g_dinS ?h1 ?h2 ?_); (case h1 => exact rfl); (case h2 => exact rfl))
  | ((with_reducible refine' g_ninS ?h1 ?h2 ?_); (case h1 => exact rfl); (case h2 => exact rfl))
  | ((with_reducible refine' g_dinI ?h1 ?h2 ?_); (case h1 => exact rfl); (case h2 => exact rfl))
  | ((with_reducible refine' g_ninI ?h1 ?h2 ?_); (case h1 => exact rfl); (case h2 => exact rfl))
  | with_reducible refine' g_dg2 ?_
  | ((with_reducible refine' g_dg2E ?h1 ?_); (case h1 => exact rfl))
  | ((with_reducible refine' g_dg2S' ?h1 ?h2 ?h3 ?_); (case h1 => exact rfl); (case h2 => assumption); (case h3 => exact rfl))
  | ((with_reducible refine' g_dg2I' ?h1 ?h2 ?h3 ?_); (case h1 => exact rfl); (case h2 => assumption); (case h3 => exact rfl))
  | ((with_reducible refine' g_dg2S ?h1 ?h2 ?_); (case h1 => exact rfl); (case h2 => exact rfl))
  | ((with_reducible refine' g_dg2I ?h1 ?h2 ?_); (case h1 => exact rfl); (case h2 => exact rfl))
  | with_reducible refine' g_dg1 ?_
  | ((with_reducible refine' g_dg1E ?h1 ?_); (case h1 => exact rfl))
  | ((with_reducible refine' g_dg1S' ?h1 ?h2 ?h3 ?_); (case h1 => exact rfl); (case h2 => assumption); (case h3 => exact rfl))
  | ((with_reducible refine' g_dg1S ?h1 ?h2 ?_); (case h1 => exact rfl); (case h2 => exact rfl))
  | ((with_reducible refine' g_dg1I ?h1 ?h2 ?_); (case h1 => exact rfl); (case h2 => exact rfl))
  | with_reducible refine' g_ch ?_
  | ((with_reducible refine' g_chE ?h1 ?_); (case h1 => walk_at "rel"))
  | ((with_reducible refine' g_chF ?h1 ?_); (case h1 => walk_at "rel"))
  | with_reducible refine' g_tru ?_
  | ((with_reducible refine' g_truE ?h1 ?h2 ?h3 ?_); (case h1 => exact rfl); (case h2 => exact rfl); (case h3 => constructor))
  | with_reducible refine' g_dropV ?_
  | ((with_reducible refine' g_dropE ?h1 ?_); (case h1 => exact rfl); try walk_at "ev")
  | with_reducible refine' g_asgV ?_
  | ((with_reducible refine' g_name ?h1 ?h2 ?_); (case h1 => exact rfl); (case h2 => first | ((walk_at "ev"); exact rfl) | ((walk_at "ev"); done) | exact rfl))
  | ((with_reducible refine' g_gtup ?h1 ?_); (case h1 => exact rfl))
  | with_reducible refine' g_gnil ?_
  | with_reducible refine' g_gcons ?_
  | with_reducible refine' g_gix ?_
  | ((with_reducible refine' g_gixE ?h1 ?h2 ?_); (case h1 => exact rfl); (case h2 => first | assumption | exact rfl); try walk_at "ev")
  | with_reducible refine' g_dput ?_
  | ((with_reducible refine' g_dputS ?h1 ?h2 ?h3 ?_); (case h1 => exact rfl); (case h2 => walk_at "sd"); (case h3 => exact rfl); try walk_at "ev")
  | ((with_reducible refine' g_dputI ?h1 ?h2 ?h3 ?_); (case h1 => exact rfl); (case h2 => walk_at "sd"); (case h3 => exact rfl); try walk_at "ev")
  | ((with_reducible refine' g_aug ?h1 ?_); (case h1 => exact rfl))
  | ((with_reducible refine' g_augE ?h1 ?h2 ?h3 ?h4 ?h5 ?_); (case h1 => exact rfl); (case h2 => exact rfl); (case h3 => walk_at "rel"); (case h4 => exact rfl); (case h5 => first | ((walk_at "ev"); exact rfl) | ((walk_at "ev"); done) | exact rfl))
  | with_reducible refine' g_par ?_
  | ((with_reducible refine' g_parE ?h1 ?h2 ?h3 ?h4 ?_); (case h1 => exact rfl); (case h2 => exact rfl); (case h3 => exact rfl); (case h4 => first | ((walk_at "ev"); exact rfl) | ((walk_at "ev"); done) | exact rfl))
  | with_reducible refine' g_iR1 ?_
  | ((with_reducible refine' g_r1E ?h1 ?_); (case h1 => walk_at "sd"))
  | with_reducible refine' g_iR2 ?_
  | ((with_reducible refine' g_r2E ?h1 ?_); (case h1 => walk_at "sd"))
  | with_reducible refine' g_iL ?_
  | ((with_reducible refine' g_iLE ?h1 ?h2 ?_); (case h1 => exact rfl); (case h2 => walk_at "dl"))
  | with_reducible refine' g_iT ?_
  | ((with_reducible refine' g_iTE ?h1 ?h2 ?_); (case h1 => exact rfl); (case h2 => exact .d _))
  | with_reducible refine' g_iS ?_
  | with_reducible refine' g_iSE ?_
  | with_reducible refine' g_iE ?_
  | ((with_reducible refine' g_iEE ?h1 ?h2 ?_); (case h1 => exact rfl); (case h2 => walk_at "dl"))
  | with_reducible refine' g_for ?_
  | with_reducible refine' g_comp ?_
  | with_reducible refine' g_yes ?_
  | ((with_reducible refine' g_accV ?h1 ?_); (case h1 => walk_at "sd"))
  | with_reducible refine' g_nxS ?_
  | with_reducible refine' g_nxF ?_
  | with_reducible refine' g_nxW ?_
  | with_reducible refine' g_rtS ?_
  | with_reducible refine' g_rtF ?_
  | with_reducible refine' g_rtW ?_
  | ((with_reducible refine' g_ownE ?h1 ?_); (case h1 => exact .mv rfl); try walk_at "ev")
  | with_reducible refine' g_bk ?_
  | with_reducible refine' g_ct ?_
  | with_reducible refine' g_bkS ?_
  | with_reducible refine' g_bkF ?_
  | with_reducible refine' g_bkW ?_
  | with_reducible refine' g_nxK ?_
  | with_reducible refine' g_ctK ?_
  | ((with_reducible refine' g_rtK ?h1 ?_); (case h1 => (simp only [List.length_cons, List.length_nil, List.length_set]; omega)); try walk_at "ev")
  | ((with_reducible refine' g_bkK ?h1 ?_); (case h1 => (simp only [List.length_cons, List.length_nil, List.length_set]; omega)); try walk_at "ev")
  | with_reducible refine' g_ctS ?_
  | with_reducible refine' g_ctF ?_
  | with_reducible refine' g_ctW ?_)
local macro_rules | `(tactic| walk_at "go") => `(tactic| repeat walk_at "g1")
local macro_rules | `(tactic| walk_at "end") => `(tactic| first
  | ((with_reducible refine' g_end ?h1 ?h2 ?h3 ?_); (case h1 => first | exact .v _ _ | exact .mv rfl); (case h2 => exact rfl); (case h3 => exact rfl))
  | ((with_reducible refine' g_endN ?h2 ?h3 ?_); (case h2 => exact rfl); (case h3 => exact rfl)))
/-! the package: conflate.playing, conflate.keys, conflate.queues -/
/-! ## play -/
/-- the queue: keys in their order, each with the number of its last write -/
abbrev Qu := List (Str × Nat)
def putQ (q : Qu) (k : Str) (n : Nat) : Qu := if k ∈ q.map (·.1) then q.map (fun p => if p.1 = k then (k, n) else p) else q ++ [(k, n)]
/-- playing on from a queue, n writes done: the written keys, the numbers of the shown writes, the queue at the end -/
def playQ : Qu → Nat → List Ev → List Str × List Nat × Qu
  | q, _, [] => ([], [], q)
  | q, n, some k :: es => let r := playQ (putQ q k n) (n + 1) es; (k :: r.1, r.2.1, r.2.2)
  | [], _, none :: _ => ([], [], [])
  | x :: q, n, none :: es => let r := playQ q n es; (r.1, x.2 :: r.2.1, r.2.2)
def natD (n : Nat) : PyData := .int n
abbrev iW (ns : List Nat) : W := .lst ((ns.map natD).map W.d)
def qD (q : Qu) : List (Key × PyData) := q.map fun p => ((Sum.inr p.1 : Key), natD p.2)
theorem qD_val (q : Qu) (k : Str) : (valD (qD q) (Sum.inr k : Key)).isSome = decide (k ∈ q.map (·.1)) := by
  induction q with
  | nil => rfl
  | cons p q ih =>
    show (valD ((Sum.inr p.1, natD p.2) :: qD q) (Sum.inr k)).isSome = _
    rw [valD_cons]
    by_cases e : p.1 = k
    · rw [if_pos (by rw [e])]
      simp [e]
    · rw [if_neg (fun z => e (Sum.inr.inj z)), ih]
      simp [Ne.symm e]
theorem qD_put (q : Qu) (k : Str) (n : Nat) : putD (qD q) (Sum.inr k : Key) (natD n) = qD (putQ q k n) := by
  have ha : ((qD q).any fun z => decide (z.1 = (Sum.inr k : Key))) = decide (k ∈ q.map (·.1)) := by
    induction q with
    | nil => rfl
    | cons p q ih =>
      show (decide ((Sum.inr p.1 : Key) = Sum.inr k) || (qD q).any _) = _
      rw [ih]
      by_cases e : p.1 = k
      · simp [e]
      · simp [e, Ne.symm e]
  unfold putD putQ
  rw [ha]
  by_cases h : k ∈ q.map (·.1)
  · rw [if_pos (by simpa using h), if_pos h]
    unfold qD
    rw [List.map_map, List.map_map]
    refine List.map_congr_left fun p _ => ?_
    show (if (Sum.inr p.1 : Key) = Sum.inr k then _ else _) = _
    by_cases e : p.1 = k
    · rw [if_pos (by rw [e])]
      simp [e]
    · rw [if_neg (fun z => e (Sum.inr.inj z))]
      simp [e]
  · rw [if_neg (by simpa using h), if_neg h]
    unfold qD
    rw [List.map_append]
    rfl
theorem putQ_keys (q : Qu) (k : Str) (n : Nat) : (putQ q k n).map (·.1) = if k ∈ q.map (·.1) then q.map (·.1) else q.map (·.1) ++ [k] := by
  unfold putQ
  by_cases h : k ∈ q.map (·.1)
  · rw [if_pos h, if_pos h, List.map_map]
    refine List.map_congr_left fun p _ => ?_
    show (if p.1 = k then (k, n) else p).1 = p.1
    by_cases e : p.1 = k
    · rw [if_pos e]; exact e.symm
    · rw [if_neg e]
  · rw [if_neg h, if_neg h, List.map_append]
    rfl
theorem qD_drop {x : Str × Nat} {q : Qu} (h : ((x :: q).map (·.1)).Nodup) : dropD (qD (x :: q)) (Sum.inr x.1 : Key) = qD q := by
  rw [List.map_cons, List.nodup_cons] at h
  show ((Sum.inr x.1, natD x.2) :: qD q).filter _ = _
  rw [List.filter_cons, if_neg (by simp)]
  refine List.filter_eq_self.mpr fun z hz => ?_
  obtain ⟨p, hp, rfl⟩ := List.mem_map.mp hz
  simp only [ne_eq, decide_not, Bool.not_eq_true', decide_eq_false_iff_not]
  intro e
  exact h.1 (List.mem_map.mpr ⟨p, hp, Sum.inr.inj e⟩)
/-- what play hands back -/
def playD (r : List Str × List Nat × Qu) : PyData := .tuple [.list (r.1.map PyData.str), .list (r.2.1.map natD), .list ((r.2.2.map (·.2)).map natD)]
def sp_play : SpW := fun ws Q => ∃ w, ∃ es : List Ev, ws = [w] ∧ DL w (es.map evD) ∧ es.length ≤ 100000 ∧ Q (.d (playD (playQ [] 0 es))) ws
theorem len_play {ws : List W} {Q : W → List W → Prop} (h : sp_play ws Q) : ws.length = 1 := by obtain ⟨_, _, rfl, _⟩ := h; rfl
theorem mono_play : SpW.Mono sp_play := fun ws Q Q' h ⟨w, es, e, h0, h1, q⟩ => ⟨w, es, e, h0, h1, h _ _ q⟩
theorem go_play {w : W} {es : List Ev} {Q : W → List W → Prop} (h : DL w (es.map evD)) (h1 : es.length ≤ 100000) (k : Q (.d (playD (playQ [] 0 es))) [w]) : sp_play [w] Q := ⟨w, es, rfl, h, h1, k⟩
/-- play: slots 0 events 1 keys 2 shown 3 entered 4 waiting 5 event 6 key -/
abbrev r_play_4c_0a_1a_0 : TSA := (tDrop (tMut "list" AppR (tVar 3) (tCons (tOwn (tVar 6)) tNil)))
abbrev r_play_4c_0a_3 : TSA := (tDrop (tMut "list" AppR (tVar 1) (tCons (tOwn (tVar 6)) tNil)))
abbrev r_play_4c_0a_2 : TSA := tSeq (tDput (tVar 4) (tVar 6) (tCB LenR (tCons (tVar 1) tNil))) r_play_4c_0a_3
abbrev r_play_4c_0a_1 : TSA := tSeq (tIfS (tBl (tDin true (tVar 6) (tVar 4))) r_play_4c_0a_1a_0 tNext) r_play_4c_0a_2
abbrev r_play_4c_0a_0 : TSA := tSeq (tAsg (tBin IxW (tVar 5) (tK (.d (.int 1)))) (gName 6)) r_play_4c_0a_1
abbrev r_play_4c_0b_0a_0 : TSA := (tDrop (tMut "list" AppR (tVar 2) (tCons (tOwn (tMut "dict" DPopR (tVar 4) (tCons (tOwn (tBin IxW (tVar 3) (tCB LenR (tCons (tVar 2) tNil)))) tNil))) tNil)))
abbrev r_play_4c_0b_0b_0 : TSA := tBreak
abbrev r_play_4c_0b_0 : TSA := (tIfS (tTru (tVar 4)) r_play_4c_0b_0a_0 r_play_4c_0b_0b_0)
def r_play_4c_0 : TSA := (tIfS (tBl (tBin EqR (tCB LenR (tCons (tVar 5) tNil)) (tK (.d (.int 2))))) r_play_4c_0a_0 r_play_4c_0b_0)
def r_play_5 : TSA := (tRet (tTup (tCons (tOwn (tVar 1)) (tCons (tOwn (tVar 2)) (tCons (tOwn (tLVals (tVar 4))) tNil)))))
abbrev r_play_4 : TSA := tSeq (tFor [0] (iL (tVar 0)) (gName 5) r_play_4c_0) r_play_5
abbrev r_play_3 : TSA := tSeq (tAsg (tK (WD [])) (gName 4)) r_play_4
abbrev r_play_2 : TSA := tSeq (tAsg (tLst tNil) (gName 3)) r_play_3
abbrev r_play_1 : TSA := tSeq (tAsg (tLst tNil) (gName 2)) r_play_2
abbrev r_play_0 : TSA := tSeq (tAsg (tLst tNil) (gName 1)) r_play_1

theorem rd_play {ws : List W} {Q : W → List W → Prop} (h : sp_play ws Q) : r_play_0 (endsW [0] ws Q) (startW ["events", "keys", "shown", "entered", "waiting", "event", "key"] ws) := by
  obtain ⟨w, es, rfl, hw, hl, h⟩ := h
  have big := lineBig
  show r_play_0 _ [some w, none, none, none, none, none, none]
  have fin : ∀ (ks : List Str) (sh : List Nat) (en : List Str) (q : Qu) (x5 x6 : Option W), q.length ≤ 100000 → playQ [] 0 es = (ks, sh, q) → r_play_5 (endsW [0] [w] Q) [some w, some (kW ks), some (iW sh), some (kW en), some (WD (qD q)), x5, x6] := by
    intro ks sh en q x5 x6 hq e
    have e2 : (qD q).map (·.2) = (q.map (·.2)).map natD := by
      unfold qD
      rw [List.map_map, List.map_map]
      rfl
    have e3 : (qD q).length = q.length := by simp [qD]
    unfold r_play_5
    walk_at "go"
    rw [e] at h
    cases hw
    · walk_at "end"
      rw [e2]
      exact h
    · walk_at "end"
      rw [e2]
      exact h
  have turn : ∀ {D : EndsA} (i : Nat) (e : Ev) (ks : List Str) (sh : List Nat) (en : List Str) (q : Qu) (x5 x6 : Option W), es[i]? = some e →
      (let r := playQ q ks.length (es.drop i); playQ [] 0 es = (ks ++ r.1, sh ++ r.2.1, r.2.2)) ∧ en.drop sh.length = q.map (·.1) ∧ (q.map (·.1)).Nodup ∧ ks.length ≤ i ∧ sh.length ≤ i ∧ en.length ≤ i ∧ q.length ≤ i ∧ sh.length ≤ en.length →
      (∀ (ks : List Str) (sh : List Nat) (en : List Str) (q : Qu) (x5 x6 : Option W), (let r := playQ q ks.length (es.drop (i + 1)); playQ [] 0 es = (ks ++ r.1, sh ++ r.2.1, r.2.2)) ∧ en.drop sh.length = q.map (·.1) ∧ (q.map (·.1)).Nodup ∧ ks.length ≤ i + 1 ∧ sh.length ≤ i + 1 ∧ en.length ≤ i + 1 ∧ q.length ≤ i + 1 ∧ sh.length ≤ en.length →
        NxE D [some w, some (kW ks), some (iW sh), some (kW en), some (WD (qD q)), x5, x6]) →
      (∀ x5 x6, playQ [] 0 es = (ks, sh, []) → BkE D [some w, some (kW ks), some (iW sh), some (kW en), some (WD (qD [])), x5, x6]) →
      r_play_4c_0 D [some w, some (kW ks), some (iW sh), some (kW en), some (WD (qD q)), some (.d (evD e)), x6] := by
    rintro D i e ks sh en q x5 x6 he ⟨hp, hen, hnd, l1, l2, l3, l4, l5⟩ nx bk
    have hi : i < es.length := (List.getElem?_eq_some_iff.mp he).1
    have hdr : es.drop i = e :: es.drop (i + 1) := by
      rw [List.drop_eq_getElem_cons hi]
      congr 1
      exact (List.getElem?_eq_some_iff.mp he).2
    have e3 : (qD q).length = q.length := by simp [qD]
    rw [hdr] at hp
    unfold r_play_4c_0
    cases e with
    | none =>
      cases q with
      | nil =>
        walk_at "go"
        refine bk _ _ ?_
        simpa [playQ] using hp
      | cons x q =>
        have hx : en[sh.length]? = some x.1 := by
          have := congrArg (fun l => l[0]?) hen
          simpa using this
        have hat : atI (en.map PyData.str) (sh.length : Int) = some (.str x.1) := atI_nat (by rw [List.getElem?_map, hx]; rfl)
        have hpop : DPopR (WD (qD (x :: q))) [.d (.str x.1)] (WD (qD q)) (.d (natD x.2)) := by
          have := DPopR.mk (ds := qD (x :: q)) (k := Sum.inr x.1) (d := natD x.2) (by show valD ((Sum.inr x.1, natD x.2) :: qD q) _ = _; rw [valD_cons, if_pos rfl])
          rwa [qD_drop hnd] at this
        have happ : AppR (iW sh) [.d (natD x.2)] (iW (sh ++ [x.2])) (.d .none) := by
          have := AppR.D (ds := sh.map natD) (d := natD x.2) (by rw [List.length_map]; omega)
          rwa [show sh.map natD ++ [natD x.2] = (sh ++ [x.2]).map natD by simp] at this
        walk_at "go"
        rw [List.map_cons, List.nodup_cons] at hnd
        simp only [List.length_cons] at l4
        refine nx ks (sh ++ [x.2]) en q _ _ ⟨?_, ?_, hnd.2, by omega, by simp; omega, by omega, by omega, by have := (List.getElem?_eq_some_iff.mp hx).1; simp; omega⟩
        · simpa [playQ] using hp
        · rw [List.length_append, List.length_singleton, ← List.drop_drop, hen]
          rfl
    | some k =>
      have hv := qD_val q k
      have hput := qD_put q k ks.length
      have hpk := putQ_keys q k ks.length
      have happ := appS (xs := ks) (x := k) (by omega)
      have hape := appS (xs := en) (x := k) (by omega)
      have hdl : (qD q).length < sizeLine := by omega
      have hql : (putQ q k ks.length).length = ((putQ q k ks.length).map (·.1)).length := by rw [List.length_map]
      walk_at "go"
      rw [hv]
      refine g_ifD (fun hin => ?_) (fun hin => ?_)
      · walk_at "go"
        rw [if_pos hin] at hpk
        have hh : putD (qD q) (Sum.inr k : Key) (natD ks.length) = qD (putQ q k ks.length) := hput
        show NxE D [some w, _, _, _, some (WD (putD (qD q) (Sum.inr k : Key) (natD ks.length))), _, _]
        rw [hh]
        refine nx (ks ++ [k]) sh en (putQ q k ks.length) _ _ ⟨?_, by rw [hpk]; exact hen, by rw [hpk]; exact hnd, by simp; omega, by omega, by omega, by rw [hql, hpk, List.length_map]; omega, l5⟩
        simpa [playQ] using hp
      · walk_at "go"
        rw [if_neg hin] at hpk
        show NxE D [some w, _, _, _, some (WD (putD (qD q) (Sum.inr k : Key) (natD ks.length))), _, _]
        rw [hput]
        refine nx (ks ++ [k]) sh (en ++ [k]) (putQ q k ks.length) _ _ ⟨?_, by rw [hpk, List.drop_append_of_le_length l5, hen], ?_, by simp; omega, by omega, by simp; omega, by rw [hql, hpk]; simp; omega, by simp; omega⟩
        · simpa [playQ] using hp
        · rw [hpk]
          refine List.nodup_append.mpr ⟨hnd, by simp, fun a ha b hb e => ?_⟩
          simp at hb
          rw [e, hb] at ha
          exact hin ha
  have z0 : (let r := playQ [] ([] : List Str).length (es.drop 0); playQ [] 0 es = ([] ++ r.1, [] ++ r.2.1, r.2.2)) ∧ ([] : List Str).drop ([] : List Nat).length = ([] : Qu).map (·.1) ∧ (([] : Qu).map (·.1)).Nodup ∧ ([] : List Str).length ≤ 0 ∧ ([] : List Nat).length ≤ 0 ∧ ([] : List Str).length ≤ 0 ∧ ([] : Qu).length ≤ 0 ∧ ([] : List Nat).length ≤ ([] : List Str).length :=
    ⟨by simp, rfl, .nil, by simp, by simp, by simp, by simp, by simp⟩
  cases hw with
  | d =>
    walk_at "go"
    refine g_forV (fun i ε => ∃ (ks : List Str) (sh : List Nat) (en : List Str) (q : Qu) (x5 x6 : Option W), ε = [some (.d (.list (es.map evD))), some (kW ks), some (iW sh), some (kW en), some (WD (qD q)), x5, x6] ∧
        (let r := playQ q ks.length (es.drop i); playQ [] 0 es = (ks ++ r.1, sh ++ r.2.1, r.2.2)) ∧ en.drop sh.length = q.map (·.1) ∧ (q.map (·.1)).Nodup ∧ ks.length ≤ i ∧ sh.length ≤ i ∧ en.length ≤ i ∧ q.length ≤ i ∧ sh.length ≤ en.length)
      ⟨[], [], [], [], _, _, rfl, z0⟩ ?_ ?_
    · rintro i d ε hd ⟨ks, sh, en, q, x5, x6, rfl, hp⟩
      rw [List.getElem?_map] at hd
      obtain ⟨e, he, rfl⟩ := Option.map_eq_some_iff.mp hd
      walk_at "go"
      refine turn i e ks sh en q x5 _ he hp (fun ks sh en q x5 x6 hp => ?_) fun x5 x6 hp => ?_
      · walk_at "go"
        exact ⟨ks, sh, en, q, x5, x6, rfl, hp⟩
      · walk_at "go"
        exact fin ks sh en [] _ _ (by simp) hp
    · rintro ε ⟨ks, sh, en, q, x5, x6, rfl, hp, hen, hnd, l1, l2, l3, l4, l5⟩
      rw [List.length_map] at hp l4
      walk_at "go"
      refine fin ks sh en q _ _ (by omega) ?_
      simpa [playQ] using hp
  | L =>
    walk_at "go"
    refine g_forS (fun i ε => ∃ (ks : List Str) (sh : List Nat) (en : List Str) (q : Qu) (x5 x6 : Option W), ε = [some (eW es), some (kW ks), some (iW sh), some (kW en), some (WD (qD q)), x5, x6] ∧
        (let r := playQ q ks.length (es.drop i); playQ [] 0 es = (ks ++ r.1, sh ++ r.2.1, r.2.2)) ∧ en.drop sh.length = q.map (·.1) ∧ (q.map (·.1)).Nodup ∧ ks.length ≤ i ∧ sh.length ≤ i ∧ en.length ≤ i ∧ q.length ≤ i ∧ sh.length ≤ en.length)
      (by decide) rfl ⟨[], [], [], [], _, _, rfl, z0⟩ (by rintro j ε ⟨_, _, _, _, _, _, rfl, _⟩; rfl) ?_ ?_
    · rintro i d ε hd ⟨ks, sh, en, q, x5, x6, rfl, hp⟩
      rw [List.getElem?_map] at hd
      obtain ⟨e, he, rfl⟩ := Option.map_eq_some_iff.mp hd
      walk_at "go"
      refine turn i e ks sh en q x5 _ he hp (fun ks sh en q x5 x6 hp => ?_) fun x5 x6 hp => ?_
      · walk_at "go"
        exact ⟨ks, sh, en, q, x5, x6, rfl, hp⟩
      · walk_at "go"
        exact fin ks sh en [] _ _ (by simp) hp
    · rintro ε ⟨ks, sh, en, q, x5, x6, rfl, hp, hen, hnd, l1, l2, l3, l4, l5⟩
      rw [List.length_map] at hp l4
      walk_at "go"
      refine fin ks sh en q _ _ (by omega) ?_
      simpa [playQ] using hp
end Pk

namespace Pk
open PySem PySem.Spec PyProof.Rows L2 Ab Lc

local macro_rules | `(tactic| walk_at "sd") => `(tactic| first | assumption | omega | exact True.intro | decide | (simp only [List.length_map, List.length_append, List.length_cons, List.length_nil, List.length_range, List.length_replicate]; omega))
local macro_rules | `(tactic| walk_at "dl") => `(tactic| first | assumption | exact .d _ | exact .L _ | exact DL.n | (apply DL.c; walk_at "dl"))
local macro_rules | `(tactic| walk_at "rfys") => `(tactic| first | exact .nil | (apply Rfys.cons; (walk_at "rfy"); (walk_at "rfys")))
local macro_rules | `(tactic| walk_at "rfy") => `(tactic| first | exact .d _ | exact .L _ | assumption | (apply Rfy.lst; walk_at "rfys"))
local macro_rules | `(tactic| walk_at "at") => `(tactic| first | assumption | exact rfl | (apply atI_nat; first | assumption | exact rfl))
local macro_rules | `(tactic| walk_at "rel") => `(tactic| first
  | assumption
  | exact .int
  | exact .str
  | exact .mk
  | exact .bool
  | ((refine' MulR.int ?k1); (case k1 => (refine' cmulA ?k2 ?k3; (case k2 => walk_at "sd"); (case k3 => walk_at "sd"))))
  | ((refine' MulR.str ?k1); (case k1 => walk_at "sd"))
  | ((refine' mulL ?k1 ?k2 ?k3); (case k1 => walk_at "dl"); (case k2 => walk_at "sd"); (case k3 => walk_at "sd"))
  | ((refine' IxW.S ?k1 ?k2); (case k1 => first | walk_at "sd" | decide +kernel); (case k2 => walk_at "at"))
  | ((refine' IntR.mk ?k1); (case k1 => first | walk_at "sd" | (refine' cdivA ?k2 ?k3; (case k2 => walk_at "sd"); (case k3 => walk_at "sd")) | (refine' cpow3A ?k2; (case k2 => walk_at "sd"))))
  | ((refine' IxW.L ?k1 ?k2); (case k1 => walk_at "dl"); (case k2 => walk_at "at"))
  | ((refine' IxW.T ?k1 ?k2); (case k1 => exact .d _); (case k2 => walk_at "at"))
  | exact lenM
  | exact lenD
  | ((refine' LenR.L ?k1); (case k1 => walk_at "dl"))
  | ((refine' LenR.T ?k1); (case k1 => exact .d _))
  | ((refine' LenR.S ?k1); (case k1 => walk_at "sd"))
  | ((refine' ListR.L ?k1); (case k1 => walk_at "dl"))
  | ((refine' ListR.T ?k1); (case k1 => exact .d _))
  | ((refine' ListSR.mk ?k1); (case k1 => first | walk_at "sd" | decide +kernel))
  | ((refine' InR.strL ?k1); (case k1 => walk_at "dl"))
  | ((refine' AddR.str ?k1); (case k1 => walk_at "sd"))
  | ((refine' AddR.lst ?k1 ?k2 ?k3); (case k1 => walk_at "dl"); (case k2 => walk_at "dl"); (case k3 => walk_at "sd"))
  | ((refine' AppR.D ?k1); (case k1 => walk_at "sd"))
  | ((refine' AppR.G ?k1); (case k1 => walk_at "sd"))
  | ((refine' ExtR.mk ?k1); (case k1 => walk_at "sd"))
  | exact .mk True.intro
  | ((refine' InsR.mk ?k1 ?k2 ?k3); (case k1 => walk_at "sd"); (case k2 => walk_at "sd"); (case k3 => walk_at "sd"))
  | ((refine' IsiR.mk ?k1 ?k2); (case k1 => exact rfl); (case k2 => exact rfl))
  | ((refine' JoinXR.L ?k1 ?k2); (case k1 => walk_at "dl"); (case k2 => walk_at "sd"))
  | ((refine' StR0.mk ?k1); (case k1 => walk_at "sd"))
  | ((refine' JoinR.L ?k1 ?k2); (case k1 => walk_at "dl"); (case k2 => walk_at "sd"))
  | ((refine' DPopR.mk ?k1); (case k1 => walk_at "sd"))
  | ((refine' StrR.int ?k1); (case k1 => walk_at "sd")))
local macro_rules | `(tactic| walk_at "pu") => `(tactic| first | exact rfl | (apply puts_v; walk_at "pu") | (apply puts_fl; (walk_at "pu"); exact rfl))
local macro_rules | `(tactic| walk_at "ev") => `(tactic| dsimp only [List.set_cons_zero, List.set_cons_succ, List.set_nil, putW, putP, setsW, Nat.reduceAdd, Nat.zero_add, Int.reduceToNat, restW, wipeW, keepW, plainW, List.getElem?_cons_zero, List.getElem?_cons_succ, ↓reduceIte])
local macro_rules | `(tactic| walk_at "g1") => `(tactic| first
  | with_reducible refine' g_seq ?_
  | with_reducible refine' g_asg ?_
  | with_reducible refine' g_drop ?_
  | with_reducible refine' g_ret ?_
  | with_reducible refine' g_retN ?_
  | with_reducible refine' g_ifS ?_
  | with_reducible refine' g_next ?_
  | with_reducible refine' g_bin ?_
  | with_reducible refine' g_K ?_
  | ((with_reducible refine' g_varD ?h1 ?_); (case h1 => exact rfl))
  | ((with_reducible refine' g_varL ?h1 ?_); (case h1 => exact rfl))
  | ((with_reducible refine' g_varK ?h1 ?_); (case h1 => exact rfl))
  | ((with_reducible refine' g_varI ?h1 ?_); (case h1 => exact rfl))
  | ((with_reducible refine' g_varV ?h1 ?_); (case h1 => exact rfl))
  | ((with_reducible refine' g_binPow ?h1 ?h2 ?_); (case h1 => first | exact ⟨by decide, by decide⟩ | (refine' cpowA ?k2 ?k3; (case k2 => walk_at "sd"); (case k3 => decide))); (case h2 => first | ((dsimp only [Int.reduceToNat]); done) | ((dsimp only [Int.reduceToNat]); exact rfl)))
  | ((with_reducible refine' g_binV ?h1 ?_); (case h1 => walk_at "rel"))
  | ((with_reducible refine' g_binE ?h1 ?h2 ?h3 ?h4 ?h5 ?_); (case h1 => exact rfl); (case h2 => exact rfl); (case h3 => exact rfl); (case h4 => exact rfl); (case h5 => walk_at "rel"); try walk_at "ev")
  | with_reducible refine' g_bl ?_
  | with_reducible refine' g_blE ?_
  | with_reducible refine' g_and ?_
  | with_reducible refine' g_or ?_
  | with_reducible refine' g_not ?_
  | with_reducible refine' g_if ?_
  | with_reducible refine' g_andV ?_
  | with_reducible refine' g_orV ?_
  | with_reducible refine' g_notV ?_
  | with_reducible refine' g_boE ?_
  | with_reducible refine' g_ifInT ?_
  | with_reducible refine' g_ifInF ?_
  | with_reducible refine' g_ifN ?_
  | ((with_reducible refine' g_ifT ?h1 ?_); (case h1 => exact rfl))
  | ((with_reducible refine' g_ifF ?h1 ?_); (case h1 => exact rfl))
  | ((with_reducible refine' g_ifDT ?h1 ?_); (case h1 => first | assumption | omega))
  | ((with_reducible refine' g_ifDF ?h1 ?_); (case h1 => first | assumption | omega))
  | with_reducible refine' g_nil ?_
  | with_reducible refine' g_cons ?_
  | with_reducible refine' g_cb ?_
  | ((with_reducible refine' g_cbE ?h1 ?h2 ?h3 ?_); (case h1 => exact rfl); (case h2 => exact rfl); (case h3 => walk_at "rel"))
  | with_reducible refine' g_mut ?_
  | ((with_reducible refine' g_mutB ?h1 ?h2 ?_); (case h1 => exact rfl); (case h2 => exact rfl))
  | ((with_reducible refine' g_mutE0 ?h1 ?h2 ?h3 ?_); (case h1 => exact rfl); (case h2 => walk_at "rel"); (case h3 => exact rfl); try walk_at "ev")
  | ((with_reducible refine' g_mutE1 ?h1 ?h2 ?h3 ?_); (case h1 => exact rfl); (case h2 => walk_at "rel"); (case h3 => exact rfl); try walk_at "ev")
  | ((with_reducible refine' g_mutE2 ?h1 ?h2 ?h3 ?_); (case h1 => exact rfl); (case h2 => walk_at "rel"); (case h3 => exact rfl); try walk_at "ev")
  | with_reducible refine' g_neg ?_
  | with_reducible refine' g_negE ?_
  | with_reducible refine' g_lv ?_
  | ((with_reducible refine' g_lvE ?h1 ?h2 ?h3 ?_); (case h1 => exact rfl); (case h2 => exact rfl); (case h3 => walk_at "sd"))
  | with_reducible refine' g_rd ?_
  | ((with_reducible refine' g_rdB ?h1 ?h2 ?_); (case h1 => exact rfl); (case h2 => exact rfl))
  | ((with_reducible refine' g_rdE ?h1 ?h2 ?h3 ?_); (case h1 => exact rfl); (case h2 => exact rfl); (case h3 => walk_at "rel"))
  | with_reducible refine' g_own ?_
  | with_reducible refine' g_ownV ?_
  | with_reducible refine' g_frz ?_
  | with_reducible refine' g_frzD ?_
  | ((with_reducible refine' g_frzV ?h1 ?_); (case h1 => walk_at "rfy"))
  | ((with_reducible refine' g_frzS ?h1 ?h2 ?_); (case h1 => exact rfl); (case h2 => walk_at "rfy"); try walk_at "ev")
  | with_reducible refine' g_lend ?_
  | with_reducible refine' g_lendV ?_
  | with_reducible refine' g_lendF ?_
  | ((with_reducible refine' g_lendS ?h1 (fun _ => ?_)); (case h1 => exact rfl); try walk_at "ev")
  | with_reducible refine' g_late ?_
  | with_reducible refine' g_lateN ?_
  | with_reducible refine' g_lateV ?_
  | with_reducible refine' g_lateF ?_
  | ((with_reducible refine' g_lateS ?h1 (fun _ => ?_)); (case h1 => exact rfl); try walk_at "ev")
  | with_reducible refine' g_call ?_
  | ((with_reducible refine' g_callE ?h1 ?_); (case h1 => exact rfl); try dsimp only)
  | ((with_reducible refine' g_putE ?h1 ?h2 ?_); (case h1 => exact rfl); (case h2 => walk_at "pu"); try walk_at "ev")
  | with_reducible refine' g_lst ?_
  | ((with_reducible refine' g_lstE ?h1 ?h2 ?_); (case h1 => exact rfl); (case h2 => exact rfl))
  | with_reducible refine' g_tup ?_
  | ((with_reducible refine' g_tupE ?h1 ?h2 ?h3 ?_); (case h1 => exact rfl); (case h2 => walk_at "rfys"); (case h3 => exact rfl))
  | with_reducible refine' g_noPart ?_
  | with_reducible refine' g_part ?_
  | with_reducible refine' g_partE ?_
  | with_reducible refine' g_sl ?_
  | ((with_reducible refine' g_slE ?h1 ?h2 ?h3 ?_); (case h1 => exact rfl); (case h2 => exact rfl); (case h3 => walk_at "dl"))
  | with_reducible refine' g_dget ?_
  | ((with_reducible refine' g_dgetS ?h1 ?h2 ?h3 ?_); (case h1 => exact rfl); (case h2 => first | assumption | exact rfl); (case h3 => exact rfl))
  | ((with_reducible refine' g_dgetI ?h1 ?h2 ?h3 ?_); (case h1 => exact rfl); (case h2 => first | assumption | exact rfl); (case h3 => exact rfl))
  | with_reducible refine' g_din ?_
  | ((with_reducible refine' g_dinS ?h1 ?h2 ?_); (case h1 => exact rfl); (case h2 => exact rfl))
  | ((with_reducible refine' g_ninS ?h1 ?h2 ?_); (case h1 => exact rfl); (case h2 => exact rfl))
  | ((with_reducible refine' g_dinI ?h1 ?h2 ?_); (case h1 => exact rfl); (case h2 => exact rfl))
  | ((with_reducible refine' g_ninI ?h1 ?h2 ?_); (case h1 => exact rfl); (case h2 => exact rfl))
  | with_reducible refine' g_dg2 ?_
  | ((with_reducible refine' g_dg2E ?h1 ?_); (case h1 => exact rfl))
  | ((with_reducible refine' g_dg2S' ?h1 ?h2 ?h3 ?_); (case h1 => exact rfl); (case h2 => assumption); (case h3 => exact rfl))
  | ((with_reducible refine' g_dg2I' ?h1 ?h2 ?h3 ?_); (case h1 => exact rfl); (case h2 => assumption); (case h3 => exact rfl))
  | ((with_reducible refine' g_dg2S ?h1 ?h2 ?_); (case h1 => exact rfl); (case h2 => exact rfl))
  | ((with_reducible refine' g_dg2I ?h1 ?h2 ?_); (case h1 => exact rfl); (case h2 => exact rfl))
  | with_reducible refine' g_dg1 ?_
  | ((with_reducible refine' g_dg1E ?h1 ?_); (case h1 => exact rfl))
  | ((with_reducible refine' g_dg1S' ?h1 ?h2 ?h3 ?_); (case h1 => exact rfl); (case h2 => assumption); (case h3 => exact rfl))
  | ((with_reducible refine' g_dg1S ?h1 ?h2 ?_); (case h1 => exact rfl); (case h2 => exact rfl))
  | ((with_reducible refine' g_dg1I ?h1 ?h2 ?_); (case h1 => exact rfl); (case h2 => exact rfl))
  | with_reducible refine' g_ch ?_
  | ((with_reducible refine' g_chE ?h1 ?_); (case h1 => walk_at "rel"))
  | ((with_reducible refine' g_chF ?h1 ?_); (case h1 => walk_at "rel"))
  | with_reducible refine' g_tru ?_
  | ((with_reducible refine' g_truE ?h1 ?h2 ?h3 ?_); (case h1 => exact rfl); (case h2 => exact rfl); (case h3 => constructor))
  | with_reducible refine' g_dropV ?_
  | ((with_reducible refine' g_dropE ?h1 ?_); (case h1 => exact rfl); try walk_at "ev")
  | with_reducible refine' g_asgV ?_
  | ((with_reducible refine' g_name ?h1 ?h2 ?_); (case h1 => exact rfl); (case h2 => first | ((walk_at "ev"); exact rfl) | ((walk_at "ev"); done) | exact rfl))
  | ((with_reducible refine' g_gtup ?h1 ?_); (case h1 => exact rfl))
  | with_reducible refine' g_gnil ?_
  | with_reducible refine' g_gcons ?_
  | with_reducible refine' g_gix ?_
  | ((with_reducible refine' g_gixE ?h1 ?h2 ?_); (case h1 => exact rfl); (case h2 => first | assumption | exact rfl); try walk_at "ev")
  | with_reducible refine' g_dput ?_
  | ((with_reducible refine' g_dputS ?h1 ?h2 ?h3 ?_); (case h1 => exact rfl); (case h2 => walk_at "sd"); (case h3 => exact rfl); try walk_at "ev")
  | ((with_reducible refine' g_dputI ?h1 ?h2 ?h3 ?_); (case h1 => exact rfl); (case h2 => walk_at "sd"); (case h3 => exact rfl); try walk_at "ev")
  | ((with_reducible refine' g_aug ?h1 ?_); (case h1 => exact rfl))
  | ((with_reducible refine' g_augE ?h1 ?h2 ?h3 ?h4 ?h5 ?_); (case h1 => exact rfl); (case h2 => exact rfl); (case h3 => walk_at "rel"); (case h4 => exact rfl); (case h5 => first | ((walk_at "ev"); exact rfl) | ((walk_at "ev"); done) | exact rfl))
  | with_reducible refine' g_par ?_
  | ((with_reducible refine' g_parE ?h1 ?h2 ?h3 ?h4 ?_); (case h1 => exact rfl); (case h2 => exact rfl); (case h3 => exact rfl); (case h4 => first | ((walk_at "ev"); exact rfl) | ((walk_at "ev"); done) | exact rfl))
  | with_reducible refine' g_iR1 ?_
  | ((with_reducible refine' g_r1E ?h1 ?_); (case h1 => walk_at "sd"))
  | with_reducible refine' g_iR2 ?_
  | ((with_reducible refine' g_r2E ?h1 ?_); (case h1 => walk_at "sd"))
  | with_reducible refine' g_iL ?_
  | ((with_reducible refine' g_iLE ?h1 ?h2 ?_); (case h1 => exact rfl); (case h2 => walk_at "dl"))
  | with_reducible refine' g_iT ?_
  | ((with_reducible refine' g_iTE ?h1 ?h2 ?_); (case h1 => exact rfl); (case h2 => exact .d _))
  | with_reducible refine' g_iS ?_
  | with_reducible refine' g_iSE ?_
  | with_reducible refine' g_iE ?_
  | ((with_reducible refine' g_iEE ?h1 ?h2 ?_); (case h1 => exact rfl); (case h2 => walk_at "dl"))
  | with_reducible refine' g_for ?_
  | with_reducible refine' g_comp ?_
  | with_reducible refine' g_yes ?_
  | ((with_reducible refine' g_accV ?h1 ?_); (case h1 => walk_at "sd"))
  | with_reducible refine' g_nxS ?_
  | with_reducible refine' g_nxF ?_
  | with_reducible refine' g_nxW ?_
  | with_reducible refine' g_rtS ?_
  | with_reducible refine' g_rtF ?_
  | with_reducible refine' g_rtW ?_
  | ((with_reducible refine' g_ownE ?h1 ?_); (case h1 => exact .mv rfl); try walk_at "ev")
  | with_reducible refine' g_bk ?_
  | with_reducible refine' g_ct ?_
  | with_reducible refine' g_bkS ?_
  | with_reducible refine' g_bkF ?_
  | with_reducible refine' g_bkW ?_
  | with_reducible refine' g_nxK ?_
  | with_reducible refine' g_ctK ?_
  | ((with_reducible refine' g_rtK ?h1 ?_); (case h1 => (simp only [List.length_cons, List.length_nil, List.length_set]; omega)); try walk_at "ev")
  | ((with_reducible refine' g_bkK ?h1 ?_); (case h1 => (simp only [List.length_cons, List.length_nil, List.length_set]; omega)); try walk_at "ev")
  | with_reducible refine' g_ctS ?_
  | with_reducible refine' g_ctF ?_
  | with_reducible refine' g_ctW ?_)
local macro_rules | `(tactic| walk_at "go") => `(tactic| repeat walk_at "g1")
local macro_rules | `(tactic| walk_at "end") => `(tactic| first
  | ((with_reducible refine' g_end ?h1 ?h2 ?h3 ?_); (case h1 => first | exact .v _ _ | exact .mv rfl); (case h2 => exact rfl); (case h3 => exact rfl))
  | ((with_reducible refine' g_endN ?h2 ?h3 ?_); (case h2 => exact rfl); (case h3 => exact rfl)))
/-! ## are_keys -/
def textOf (ys : List Str) : Str := " " ++ Txt.join " " ys
def wordB (y : Str) : Bool := !(decide ((12 : Int) < y.length) || !Txt.isidentifier y)
def textB (t : Str) : Bool := !(!Txt.isascii t || ((!decide (t = Txt.lower t)) || !(Builtin.Str.occurrences t " _" 0 t.length 1).isEmpty))
def akB (ys : List Str) : Bool := textB (textOf ys) && ys.all wordB
inductive Words : W → List Str → Prop
  | d (ys : List Str) : Words (.d (.list (ys.map PyData.str))) ys
  | L (ys : List Str) : Words (.lst ((ys.map PyData.str).map W.d)) ys
  | K {ds : List (Key × PyData)} {ys : List Str} (h : ds.map (·.1) = ys.map Sum.inr) : Words (WD ds) ys
def sp_are_keys : SpW := fun ws Q => ∃ w ys, ws = [w] ∧ Words w ys ∧ (ys.map (·.length)).sum + ys.length ≤ 5592400 ∧ Q (.d (.bool (akB ys))) ws
theorem len_are_keys {ws : List W} {Q : W → List W → Prop} (h : sp_are_keys ws Q) : ws.length = 1 := by obtain ⟨_, _, rfl, _⟩ := h; rfl
theorem mono_are_keys : SpW.Mono sp_are_keys := fun ws Q Q' h ⟨w, ys, e, h1, h2, q⟩ => ⟨w, ys, e, h1, h2, h _ _ q⟩
theorem go_are_keys {w : W} {ys : List Str} {Q : W → List W → Prop} (h : Words w ys) (h2 : (ys.map (·.length)).sum + ys.length ≤ 5592400) (k : Q (.d (.bool (akB ys))) [w]) : sp_are_keys [w] Q := ⟨w, ys, rfl, h, h2, k⟩
/-- are_keys: slots 0 words 1 text 2 word -/
abbrev r_are_keys_1a_0 : TSA := (tRet (tK (.d (.bool false))))
abbrev r_are_keys_2c_0a_0 : TSA := (tRet (tK (.d (.bool false))))
abbrev r_are_keys_2c_0 : TSA := (tIfS (tOr (tBl (tBin GtR (tCB LenR (tCons (tVar 2) tNil)) (tK (.d (.int 12))))) (tNot (tBl (tRd "str" IsIdentR (tVar 2) tNil)))) r_are_keys_2c_0a_0 tNext)
abbrev r_are_keys_3 : TSA := (tRet (tK (.d (.bool true))))
def r_are_keys_2 : TSA := tSeq (tEither (tFor [0] (iL (tVar 0)) (gName 2) r_are_keys_2c_0) (tForK 0 (gName 2) r_are_keys_2c_0)) r_are_keys_3
abbrev r_are_keys_1 : TSA := tSeq (tIfS (tOr (tNot (tBl (tRd "str" IsAsciiR (tVar 1) tNil))) (tOr (tBl (tBin NeR (tVar 1) (tRd "str" LowerR (tVar 1) tNil))) (tBl (tBin InSR (tK (.d (.str " _"))) (tVar 1))))) r_are_keys_1a_0 tNext) r_are_keys_2
abbrev r_are_keys_0 : TSA := tSeq (tAsg (tBin AddR (tK (.d (.str " "))) (tRd "str" JoinXR (tK (.d (.str " "))) (tCons (tVar 0) tNil))) (gName 1)) r_are_keys_1

theorem len_join (ys : List Str) : (Txt.join " " ys).length ≤ (ys.map (·.length)).sum + ys.length := by
  have h := StrLaws.join_length_le " " ys
  rw [← StrLaws.glued_eq_join] at h
  have e : (" " : Str).length = 1 := rfl
  rw [e, Nat.mul_one] at h
  exact h
theorem le_sum_len {y : Str} : ∀ {ys : List Str}, y ∈ ys → y.length ≤ (ys.map (·.length)).sum
  | z :: ys, h => by
    rw [List.map_cons, List.sum_cons]
    rcases List.mem_cons.mp h with rfl | h
    · omega
    · have := le_sum_len h
      omega
theorem ifB {c : Bool} {A B : Prop} (h : c = true → A) (k : c = false → B) : IfP c A B := by
  cases c
  · exact g_ifF rfl (k rfl)
  · exact g_ifT rfl (h rfl)
theorem rd_are_keys {ws : List W} {Q : W → List W → Prop} (h : sp_are_keys ws Q) : r_are_keys_0 (endsW [0] ws Q) (startW ["words", "text", "word"] ws) := by
  obtain ⟨w, ys, rfl, hw, hl, h⟩ := h
  have big := lineBig
  show r_are_keys_0 _ [some w, none, none]
  have lj := len_join ys
  have l2 : (textOf ys).length ≤ 5592401 := by
    unfold textOf
    rw [Str.length_append]
    show 1 + _ ≤ _
    omega
  have add : AddR (.d (.str " ")) (.d (.str (Txt.join " " ys))) (.d (.str (textOf ys))) := .str (by
    show 1 + _ ≤ _
    omega)
  have low : LowerR (.d (.str (textOf ys))) [] (.d (.str (Txt.lower (textOf ys)))) := .mk (by omega)
  have jn : JoinXR (.d (.str " ")) [w] (.d (.str (Txt.join " " ys))) := by
    have f : (ys.map (·.length)).sum + ys.length * (" " : Str).length ≤ 16777216 := by
      show _ + _ * 1 ≤ _
      omega
    cases hw with
    | d => exact .L (.d _) f
    | L => exact .L (.L _) f
    | K hk => exact .K hk f (by omega)
  have no : ∀ y ∈ ys, wordB y = false → akB ys = false := fun y hy e => by
    unfold akB
    rw [Bool.and_eq_false_iff]
    refine .inr ?_
    rw [List.all_eq_false]
    exact ⟨y, hy, by rw [e]; simp⟩
  have ylen : ∀ {j : Nat} {y : Str}, ys[j]? = some y → y.length ≤ 16777216 := fun {j y} e => by
    have := le_sum_len (List.mem_of_getElem? e)
    omega
  have fin : textB (textOf ys) = true → r_are_keys_2 (endsW [0] [w] Q) [some w, some (.d (.str (textOf ys))), none] := by
    intro ht
    have yes : ys.all wordB = true → akB ys = true := fun e => by unfold akB; rw [ht, e]; rfl
    unfold r_are_keys_2
    have step : ∀ {j : Nat} {y : Str}, ys[j]? = some y → wordB y = true → (ys.take j).all wordB = true → (ys.take (j + 1)).all wordB = true := fun {j y} e hy hs => by
      rw [List.take_succ, e, List.all_append, hs]
      simp [hy]
    cases hw with
    | d =>
      walk_at "go"
      refine .inl ?_
      walk_at "go"
      refine g_forV (fun j ε => ∃ x2, ε = [some (.d (.list (ys.map PyData.str))), some (.d (.str (textOf ys))), x2] ∧ (ys.take j).all wordB = true) ⟨_, rfl, rfl⟩ ?_ ?_
      · rintro j d ε hd ⟨x2, rfl, hs⟩
        rw [List.getElem?_map] at hd
        obtain ⟨y, hy, rfl⟩ := Option.map_eq_some_iff.mp hd
        have y9 := ylen hy
        walk_at "go"
        refine g_ifD (fun e => ?_) (fun e => ?_)
        · walk_at "go"
          walk_at "end"
          have z := no y (List.mem_of_getElem? hy) (by unfold wordB; simp [e])
          rwa [z] at h
        · walk_at "go"
          refine ifB (fun e2 => ?_) (fun e2 => ?_)
          · walk_at "go"
            exact ⟨_, rfl, step hy (by unfold wordB; simp [e, e2]) hs⟩
          · walk_at "go"
            walk_at "end"
            have z := no y (List.mem_of_getElem? hy) (by unfold wordB; simp [e2])
            rwa [z] at h
      · rintro ε ⟨x2, rfl, hs⟩
        rw [List.length_map, List.take_length] at hs
        walk_at "go"
        walk_at "end"
        have z := yes hs
        rwa [z] at h
    | L =>
      walk_at "go"
      refine .inl ?_
      walk_at "go"
      refine g_forS (fun j ε => ∃ x2, ε = [some (.lst ((ys.map PyData.str).map W.d)), some (.d (.str (textOf ys))), x2] ∧ (ys.take j).all wordB = true) (by decide) rfl ⟨_, rfl, rfl⟩ (by rintro j ε ⟨_, rfl, _⟩; rfl) ?_ ?_
      · rintro j d ε hd ⟨x2, rfl, hs⟩
        rw [List.getElem?_map] at hd
        obtain ⟨y, hy, rfl⟩ := Option.map_eq_some_iff.mp hd
        have y9 := ylen hy
        walk_at "go"
        refine g_ifD (fun e => ?_) (fun e => ?_)
        · walk_at "go"
          walk_at "end"
          have z := no y (List.mem_of_getElem? hy) (by unfold wordB; simp [e])
          rwa [z] at h
        · walk_at "go"
          refine ifB (fun e2 => ?_) (fun e2 => ?_)
          · walk_at "go"
            exact ⟨_, rfl, step hy (by unfold wordB; simp [e, e2]) hs⟩
          · walk_at "go"
            walk_at "end"
            have z := no y (List.mem_of_getElem? hy) (by unfold wordB; simp [e2])
            rwa [z] at h
      · rintro ε ⟨x2, rfl, hs⟩
        rw [List.length_map, List.take_length] at hs
        walk_at "go"
        walk_at "end"
        have z := yes hs
        rwa [z] at h
    | @K ds ys hk =>
      walk_at "go"
      refine .inr ?_
      refine g_forK (fun j ε => ∃ x2, ε = [none, some (.d (.str (textOf ys))), x2] ∧ (ys.take j).all wordB = true) rfl ⟨_, rfl, rfl⟩ ?_ ?_
      · rintro j k d ε hd ⟨x2, rfl, hs⟩
        have hkj : (ys.map (Sum.inr : Str → Key))[j]? = some k := by
          rw [← hk, List.getElem?_map, hd]
          rfl
        rw [List.getElem?_map] at hkj
        obtain ⟨y, hy, rfl⟩ := Option.map_eq_some_iff.mp hkj
        show gName 2 (.d (.str y)) _ _
        have y9 := ylen hy
        walk_at "go"
        refine g_ifD (fun e => ?_) (fun e => ?_)
        · walk_at "go"
          walk_at "end"
          have z := no y (List.mem_of_getElem? hy) (by unfold wordB; simp [e])
          rwa [z] at h
        · walk_at "go"
          refine ifB (fun e2 => ?_) (fun e2 => ?_)
          · walk_at "go"
            exact ⟨_, rfl, step hy (by unfold wordB; simp [e, e2]) hs⟩
          · walk_at "go"
            walk_at "end"
            have z := no y (List.mem_of_getElem? hy) (by unfold wordB; simp [e2])
            rwa [z] at h
      · rintro ε ⟨x2, rfl, hs⟩
        have hl2 : ds.length = ys.length := by
          have := congrArg List.length hk
          rwa [List.length_map, List.length_map] at this
        rw [hl2, List.take_length] at hs
        refine ⟨by simp, ?_⟩
        walk_at "ev"
        walk_at "go"
        walk_at "end"
        have z := yes hs
        rwa [z] at h
  have bad : textB (textOf ys) = false → Q (.d (.bool false)) [w] := fun e => by
    have : akB ys = false := by unfold akB; rw [e]; rfl
    rwa [this] at h
  cases hw
  all_goals
    walk_at "go"
    refine ifB (fun a1 => ?_) (fun a1 => ?_)
    · walk_at "go"
      refine g_ifD (fun a2 => ?_) (fun a2 => ?_)
      · walk_at "go"
        refine ifB (fun a3 => ?_) (fun a3 => ?_)
        · walk_at "go"
          refine fin ?_
          unfold textB
          rw [a1, a3, decide_eq_true a2]
          rfl
        · walk_at "go"
          walk_at "end"
          refine bad ?_
          unfold textB
          rw [a1, a3, decide_eq_true a2]
          rfl
      · walk_at "go"
        walk_at "end"
        refine bad ?_
        unfold textB
        rw [a1, decide_eq_false a2]
        rfl
    · walk_at "go"
      walk_at "end"
      refine bad ?_
      unfold textB
      rw [a1]
      rfl
end Pk

namespace Pk
open PySem PySem.Spec PyProof.Rows L2 Ab Lc

local macro_rules | `(tactic| walk_at "sd") => `(tactic| first | assumption | omega | exact True.intro | decide | (simp only [List.length_map, List.length_append, List.length_cons, List.length_nil, List.length_range, List.length_replicate]; omega))
local macro_rules | `(tactic| walk_at "dl") => `(tactic| first | assumption | exact .d _ | exact .L _ | exact DL.n | (apply DL.c; walk_at "dl"))
local macro_rules | `(tactic| walk_at "rfys") => `(tactic| first | exact .nil | (apply Rfys.cons; (walk_at "rfy"); (walk_at "rfys")))
local macro_rules | `(tactic| walk_at "rfy") => `(tactic| first | exact .d _ | exact .L _ | assumption | (apply Rfy.lst; walk_at "rfys"))
local macro_rules | `(tactic| walk_at "at") => `(tactic| first | assumption | exact rfl | (apply atI_nat; first | assumption | exact rfl))
local macro_rules | `(tactic| walk_at "rel") => `(tactic| first
  | assumption
  | exact .int
  | exact .str
  | exact .mk
  | exact .bool
  | ((refine' MulR.int ?k1); (case k1 => (refine' cmulA ?k2 ?k3; (case k2 => walk_at "sd"); (case k3 => walk_at "sd"))))
  | ((refine' MulR.str ?k1); (case k1 => walk_at "sd"))
  | ((refine' mulL ?k1 ?k2 ?k3); (case k1 => walk_at "dl"); (case k2 => walk_at "sd"); (case k3 => walk_at "sd"))
  | ((refine' IxW.S ?k1 ?k2); (case k1 => first | walk_at "sd" | decide +kernel); (case k2 => walk_at "at"))
  | ((refine' IntR.mk ?k1); (case k1 => first | walk_at "sd" | (refine' cdivA ?k2 ?k3; (case k2 => walk_at "sd"); (case k3 => walk_at "sd")) | (refine' cpow3A ?k2; (case k2 => walk_at "sd"))))
  | ((refine' IxW.L ?k1 ?k2); (case k1 => walk_at "dl"); (case k2 => walk_at "at"))
  | ((refine' IxW.T ?k1 ?k2); (case k1 => exact .d _); (case k2 => walk_at "at"))
  | exact lenM
  | exact lenD
  | ((refine' LenR.L ?k1); (case k1 => walk_at "dl"))
  | ((refine' LenR.T ?k1); (case k1 => exact .d _))
  | ((refine' LenR.S ?k1); (case k1 => walk_at "sd"))
  | ((refine' ListR.L ?k1); (case k1 => walk_at "dl"))
  | ((refine' ListR.T ?k1); (case k1 => exact .d _))
  | ((refine' ListSR.mk ?k1); (case k1 => first | walk_at "sd" | decide +kernel))
  | ((refine' InR.strL ?k1); (case k1 => walk_at "dl"))
  | ((refine' AddR.str ?k1); (case k1 => walk_at "sd"))
  | ((refine' AddR.lst ?k1 ?k2 ?k3); (case k1 => walk_at "dl"); (case k2 => walk_at "dl"); (case k3 => walk_at "sd"))
  | ((refine' AppR.D ?k1); (case k1 => walk_at "sd"))
  | ((refine' AppR.G ?k1); (case k1 => walk_at "sd"))
  | ((refine' ExtR.mk ?k1); (case k1 => walk_at "sd"))
  | exact .mk True.intro
  | ((refine' InsR.mk ?k1 ?k2 ?k3); (case k1 => walk_at "sd"); (case k2 => walk_at "sd"); (case k3 => walk_at "sd"))
  | ((refine' IsiR.mk ?k1 ?k2); (case k1 => exact rfl); (case k2 => exact rfl))
  | ((refine' JoinXR.L ?k1 ?k2); (case k1 => walk_at "dl"); (case k2 => walk_at "sd"))
  | ((refine' StR0.mk ?k1); (case k1 => walk_at "sd"))
  | ((refine' JoinR.L ?k1 ?k2); (case k1 => walk_at "dl"); (case k2 => walk_at "sd"))
  | ((refine' DPopR.mk ?k1); (case k1 => walk_at "sd"))
  | ((refine' StrR.int ?k1); (case k1 => walk_at "sd")))
local macro_rules | `(tactic| walk_at "pu") => `(tactic| first | exact rfl | (apply puts_v; walk_at "pu") | (apply puts_fl; (walk_at "pu"); exact rfl))
local macro_rules | `(tactic| walk_at "ev") => `(tactic| dsimp only [List.set_cons_zero, List.set_cons_succ, List.set_nil, putW, putP, setsW, Nat.reduceAdd, Nat.zero_add, Int.reduceToNat, restW, wipeW, keepW, plainW, List.getElem?_cons_zero, List.getElem?_cons_succ, ↓reduceIte])
local macro_rules | `(tactic| walk_at "g1") => `(tactic| first
  | with_reducible refine' g_seq ?_
  | with_reducible refine' g_asg ?_
  | with_reducible refine' g_drop ?_
  | with_reducible refine' g_ret ?_
  | with_reducible refine' g_retN ?_
  | with_reducible refine' g_ifS ?_
  | with_reducible refine' g_next ?_
  | with_reducible refine' g_bin ?_
  | with_reducible refine' g_K ?_
  | ((with_reducible refine' g_varD ?h1 ?_); (case h1 => exact rfl))
  | ((with_reducible refine' g_varL ?h1 ?_); (case h1 => exact rfl))
  | ((with_reducible refine' g_varK ?h1 ?_); (case h1 => exact rfl))
  | ((with_reducible refine' g_varI ?h1 ?_); (case h1 => exact rfl))
  | ((with_reducible refine' g_varV ?h1 ?_); (case h1 => exact rfl))
  | ((with_reducible refine' g_binPow ?h1 ?h2 ?_); (case h1 => first | exact ⟨by decide, by decide⟩ | (refine' cpowA ?k2 ?k3; (case k2 => walk_at "sd"); (case k3 => decide))); (case h2 => first | ((dsimp only [Int.reduceToNat]); done) | ((dsimp only [Int.reduceToNat]); exact rfl)))
  | ((with_reducible refine' g_binV ?h1 ?_); (case h1 => walk_at "rel"))
  | ((with_reducible refine' g_binE ?h1 ?h2 ?h3 ?h4 ?h5 ?_); (case h1 => exact rfl); (case h2 => exact rfl); (case h3 => exact rfl); (case h4 => exact rfl); (case h5 => walk_at "rel"); try walk_at "ev")
  | with_reducible refine' g_bl ?_
  | with_reducible refine' g_blE ?_
  | with_reducible refine' g_and ?_
  | with_reducible refine' g_or ?_
  | with_reducible refine' g_not ?_
  | with_reducible refine' g_if ?_
  | with_reducible refine' g_andV ?_
  | with_reducible refine' g_orV ?_
  | with_reducible refine' g_notV ?_
  | with_reducible refine' g_boE ?_
  | with_reducible refine' g_ifInT ?_
  | with_reducible refine' g_ifInF ?_
  | with_reducible refine' g_ifN ?_
  | ((with_reducible refine' g_ifT ?h1 ?_); (case h1 => exact rfl))
  | ((with_reducible refine' g_ifF ?h1 ?_); (case h1 => exact rfl))
  | ((with_reducible refine' g_ifDT ?h1 ?_); (case h1 => first | assumption | omega))
  | ((with_reducible refine' g_ifDF ?h1 ?_); (case h1 => first | assumption | omega))
  | with_reducible refine' g_nil ?_
  | with_reducible refine' g_cons ?_
  | with_reducible refine' g_cb ?_
  | ((with_reducible refine' g_cbE ?h1 ?h2 ?h3 ?_); (case h1 => exact rfl); (case h2 => exact rfl); (case h3 => walk_at "rel"))
  | with_reducible refine' g_mut ?_
  | ((with_reducible refine' g_mutB ?h1 ?h2 ?_); (case h1 => exact rfl); (case h2 => exact rfl))
  | ((with_reducible refine' g_mutE0 ?h1 ?h2 ?h3 ?_); (case h1 => exact rfl); (case h2 => walk_at "rel"); (case h3 => exact rfl); try walk_at "ev")
  | ((with_reducible refine' g_mutE1 ?h1 ?h2 ?h3 ?_); (case h1 => exact rfl); (case h2 => walk_at "rel"); (case h3 => exact rfl); try walk_at "ev")
  | ((with_reducible refine' g_mutE2 ?h1 ?h2 ?h3 ?_); (case h1 => exact rfl); (case h2 => walk_at "rel"); (case h3 => exact rfl); try walk_at "ev")
  | with_reducible refine' g_neg ?_
  | with_reducible refine' g_negE ?_
  | with_reducible refine' g_lv ?_
  | ((with_reducible refine' g_lvE ?h1 ?h2 ?h3 ?_); (case h1 => exact rfl); (case h2 => exact rfl); (case h3 => walk_at "sd"))
  | with_reducible refine' g_rd ?_
  | ((with_reducible refine' g_rdB ?h1 ?h2 ?_); (case h1 => exact rfl); (case h2 => exact rfl))
  | ((with_reducible refine' g_rdE ?h1 ?h2 ?h3 ?_); (case h1 => exact rfl); (case h2 => exact rfl); (case h3 => walk_at "rel"))
  | with_reducible refine' g_own ?_
  | with_reducible refine' g_ownV ?_
  | with_reducible refine' g_frz ?_
  | with_reducible refine' g_frzD ?_
  | ((with_reducible refine' g_frzV ?h1 ?_); (case h1 => walk_at "rfy"))
  | ((with_reducible refine' g_frzS ?h1 ?h2 ?_); (case h1 => exact rfl); (case h2 => walk_at "rfy"); try walk_at "ev")
  | with_reducible refine' g_lend ?_
  | with_reducible refine' g_lendV ?_
  | with_reducible refine' g_lendF ?_
  | ((with_reducible refine' g_lendS ?h1 (fun _ => ?_)); (case h1 => exact rfl); try walk_at "ev")
  | with_reducible refine' g_late ?_
  | with_reducible refine' g_lateN ?_
  | with_reducible refine' g_lateV ?_
  | with_reducible refine' g_lateF ?_
  | ((with_reducible refine' g_lateS ?h1 (fun _ => ?_)); (case h1 => exact rfl); try walk_at "ev")
  | with_reducible refine' g_call ?_
  | ((with_reducible refine' g_callE ?h1 ?_); (case h1 => exact rfl); try dsimp only)
  | ((with_reducible refine' g_putE ?h1 ?h2 ?_); (case h1 => exact rfl); (case h2 => walk_at "pu"); try walk_at "ev")
  | with_reducible refine' g_lst ?_
  | ((with_reducible refine' g_lstE ?h1 ?h2 ?_); (case h1 => exact rfl); (case h2 => exact rfl))
  | with_reducible refine' g_tup ?_
  | ((with_reducible refine' g_tupE ?h1 ?h2 ?h3 ?_); (case h1 => exact rfl); (case h2 => walk_at "rfys"); (case h3 => exact rfl))
  | with_reducible refine' g_noPart ?_
  | with_reducible refine' g_part ?_
  | with_reducible refine' g_partE ?_
  | with_reducible refine' g_sl ?_
  | ((with_reducible refine' g_slE ?h1 ?h2 ?h3 ?_); (case h1 => exact rfl); (case h2 => exact rfl); (case h3 => walk_at "dl"))
  | with_reducible refine' g_dget ?_
  | ((with_reducible refine' g_dgetS ?h1 ?h2 ?h3 ?_); (case h1 => exact rfl); (case h2 => first | assumption | exact rfl); (case h3 => exact rfl))
  | ((with_reducible refine' g_dgetI ?h1 ?h2 ?h3 ?_); (case h1 => exact rfl); (case h2 => first | assumption | exact rfl); (case h3 => exact rfl))
  | with_reducible refine' g_din ?_
  | ((with_reducible refine' g_dinS ?h1 ?h2 ?_); (case h1 => exact rfl); (case h2 => exact rfl))
  | ((with_reducible refine' g_ninS ?h1 ?h2 ?_); (case h1 => exact rfl); (case h2 => exact rfl))
  | ((with_reducible refine' g_dinI ?h1 ?h2 ?_); (case h1 => exact rfl); (case h2 => exact rfl))
  | ((with_reducible refine' g_ninI ?h1 ?h2 ?_); (case h1 => exact rfl); (case h2 => exact rfl))
  | with_reducible refine' g_dg2 ?_
  | ((with_reducible refine' g_dg2E ?h1 ?_); (case h1 => exact rfl))
  | ((with_reducible refine' g_dg2S' ?h1 ?h2 ?h3 ?_); (case h1 => exact rfl); (case h2 => assumption); (case h3 => exact rfl))
  | ((with_reducible refine' g_dg2I' ?h1 ?h2 ?h3 ?_); (case h1 => exact rfl); (case h2 => assumption); (case h3 => exact rfl))
  | ((with_reducible refine' g_dg2S ?h1 ?h2 ?_); (case h1 => exact rfl); (case h2 => exact rfl))
  | ((with_reducible refine' g_dg2I ?h1 ?h2 ?_); (case h1 => exact rfl); (case h2 => exact rfl))
  | with_reducible refine' g_dg1 ?_
  | ((with_reducible refine' g_dg1E ?h1 ?_); (case h1 => exact rfl))
  | ((with_reducible refine' g_dg1S' ?h1 ?h2 ?h3 ?_); (case h1 => exact rfl); (case h2 => assumption); (case h3 => exact rfl))
  | ((with_reducible refine' g_dg1S ?h1 ?h2 ?_); (case h1 => exact rfl); (case h2 => exact rfl))
  | ((with_reducible refine' g_dg1I ?h1 ?h2 ?_); (case h1 => exact rfl); (case h2 => exact rfl))
  | with_reducible refine' g_ch ?_
  | ((with_reducible refine' g_chE ?h1 ?_); (case h1 => walk_at "rel"))
  | ((with_reducible refine' g_chF ?h1 ?_); (case h1 => walk_at "rel"))
  | with_reducible refine' g_tru ?_
  | ((with_reducible refine' g_truE ?h1 ?h2 ?h3 ?_); (case h1 => exact rfl); (case h2 => exact rfl); (case h3 => constructor))
  | with_reducible refine' g_dropV ?_
  | ((with_reducible refine' g_dropE ?h1 ?_); (case h1 => exact rfl); try walk_at "ev")
  | with_reducible refine' g_asgV ?_
  | ((with_reducible refine' g_name ?h1 ?h2 ?_); (case h1 => exact rfl); (case h2 => first | ((walk_at "ev"); exact rfl) | ((walk_at "ev"); done) | exact rfl))
  | ((with_reducible refine' g_gtup ?h1 ?_); (case h1 => exact rfl))
  | with_reducible refine' g_gnil ?_
  | with_reducible refine' g_gcons ?_
  | with_reducible refine' g_gix ?_
  | ((with_reducible refine' g_gixE ?h1 ?h2 ?_); (case h1 => exact rfl); (case h2 => first | assumption | exact rfl); try walk_at "ev")
  | with_reducible refine' g_dput ?_
  | ((with_reducible refine' g_dputS ?h1 ?h2 ?h3 ?_); (case h1 => exact rfl); (case h2 => walk_at "sd"); (case h3 => exact rfl); try walk_at "ev")
  | ((with_reducible refine' g_dputI ?h1 ?h2 ?h3 ?_); (case h1 => exact rfl); (case h2 => walk_at "sd"); (case h3 => exact rfl); try walk_at "ev")
  | ((with_reducible refine' g_aug ?h1 ?_); (case h1 => exact rfl))
  | ((with_reducible refine' g_augE ?h1 ?h2 ?h3 ?h4 ?h5 ?_); (case h1 => exact rfl); (case h2 => exact rfl); (case h3 => walk_at "rel"); (case h4 => exact rfl); (case h5 => first | ((walk_at "ev"); exact rfl) | ((walk_at "ev"); done) | exact rfl))
  | with_reducible refine' g_par ?_
  | ((with_reducible refine' g_parE ?h1 ?h2 ?h3 ?h4 ?_); (case h1 => exact rfl); (case h2 => exact rfl); (case h3 => exact rfl); (case h4 => first | ((walk_at "ev"); exact rfl) | ((walk_at "ev"); done) | exact rfl))
  | with_reducible refine' g_iR1 ?_
  | ((with_reducible refine' g_r1E ?h1 ?_); (case h1 => walk_at "sd"))
  | with_reducible refine' g_iR2 ?_
  | ((with_reducible refine' g_r2E ?h1 ?_); (case h1 => walk_at "sd"))
  | with_reducible refine' g_iL ?_
  | ((with_reducible refine' g_iLE ?h1 ?h2 ?_); (case h1 => exact rfl); (case h2 => walk_at "dl"))
  | with_reducible refine' g_iT ?_
  | ((with_reducible refine' g_iTE ?h1 ?h2 ?_); (case h1 => exact rfl); (case h2 => exact .d _))
  | with_reducible refine' g_iS ?_
  | with_reducible refine' g_iSE ?_
  | with_reducible refine' g_iE ?_
  | ((with_reducible refine' g_iEE ?h1 ?h2 ?_); (case h1 => exact rfl); (case h2 => walk_at "dl"))
  | with_reducible refine' g_for ?_
  | with_reducible refine' g_comp ?_
  | with_reducible refine' g_yes ?_
  | ((with_reducible refine' g_accV ?h1 ?_); (case h1 => walk_at "sd"))
  | with_reducible refine' g_nxS ?_
  | with_reducible refine' g_nxF ?_
  | with_reducible refine' g_nxW ?_
  | with_reducible refine' g_rtS ?_
  | with_reducible refine' g_rtF ?_
  | with_reducible refine' g_rtW ?_
  | ((with_reducible refine' g_ownE ?h1 ?_); (case h1 => exact .mv rfl); try walk_at "ev")
  | with_reducible refine' g_bk ?_
  | with_reducible refine' g_ct ?_
  | with_reducible refine' g_bkS ?_
  | with_reducible refine' g_bkF ?_
  | with_reducible refine' g_bkW ?_
  | with_reducible refine' g_nxK ?_
  | with_reducible refine' g_ctK ?_
  | ((with_reducible refine' g_rtK ?h1 ?_); (case h1 => (simp only [List.length_cons, List.length_nil, List.length_set]; omega)); try walk_at "ev")
  | ((with_reducible refine' g_bkK ?h1 ?_); (case h1 => (simp only [List.length_cons, List.length_nil, List.length_set]; omega)); try walk_at "ev")
  | with_reducible refine' g_ctS ?_
  | with_reducible refine' g_ctF ?_
  | with_reducible refine' g_ctW ?_)
local macro_rules | `(tactic| walk_at "go") => `(tactic| repeat walk_at "g1")
local macro_rules | `(tactic| walk_at "end") => `(tactic| first
  | ((with_reducible refine' g_end ?h1 ?h2 ?h3 ?_); (case h1 => first | exact .v _ _ | exact .mv rfl); (case h2 => exact rfl); (case h3 => exact rfl))
  | ((with_reducible refine' g_endN ?h2 ?h3 ?_); (case h2 => exact rfl); (case h3 => exact rfl)))
/-! ## is_events, of lists of events -/
/-- the keys in the order of their first writes -/
def firsts : List Str → List Ev → List Str
  | acc, [] => acc
  | acc, none :: es => firsts acc es
  | acc, some k :: es => firsts (if k ∈ acc then acc else acc ++ [k]) es
def Small (es : List Ev) : Prop := es.length ≤ 50000 ∧ ∀ k, some k ∈ es → k.length ≤ 100
def sp_is_events : SpW := fun ws Q => ∃ w es, ws = [w] ∧ DL w (es.map evD) ∧ Small es ∧ Q (.d (.bool (akB (firsts [] es)))) ws
theorem len_is_events {ws : List W} {Q : W → List W → Prop} (h : sp_is_events ws Q) : ws.length = 1 := by obtain ⟨_, _, rfl, _⟩ := h; rfl
theorem mono_is_events : SpW.Mono sp_is_events := fun ws Q Q' h ⟨w, ys, e, h1, h2, q⟩ => ⟨w, ys, e, h1, h2, h _ _ q⟩
theorem go_is_events {w : W} {es : List Ev} {Q : W → List W → Prop} (h : DL w (es.map evD)) (h2 : Small es) (k : Q (.d (.bool (akB (firsts [] es)))) [w]) : sp_is_events [w] Q := ⟨w, es, rfl, h, h2, k⟩
/-- is_events: slots 0 value 1 keys 2 event 3 word 4 key -/
abbrev r_is_events_0a_0 : TSA := (tRet (tK (.d (.bool false))))
abbrev r_is_events_2c_0a_0 : TSA := (tRet (tK (.d (.bool false))))
abbrev r_is_events_2c_1a_1a_0 : TSA := (tRet (tK (.d (.bool false))))
abbrev r_is_events_2c_1a_2 : TSA := (tDput (tVar 1) (tVar 4) (tK (.d (.bool true))))
abbrev r_is_events_2c_1a_1 : TSA := tSeq (tIfS (tOr (tNot (tBl (tCB IsiR (tCons (tVar 3) (tCons (tK (.v (.ty "str"))) tNil))))) (tOr (tBl (tBin NeR (tVar 3) (tK (.d (.str "write"))))) (tNot (tBl (tCB IsiR (tCons (tVar 4) (tCons (tK (.v (.ty "str"))) tNil))))))) r_is_events_2c_1a_1a_0 tNext) r_is_events_2c_1a_2
abbrev r_is_events_2c_1a_0 : TSA := tSeq (tAsg (tVar 2) (gTup 2 (gCons (gName 3) (gCons (gName 4) gNil)))) r_is_events_2c_1a_1
abbrev r_is_events_2c_1b_0a_0 : TSA := (tRet (tK (.d (.bool false))))
abbrev r_is_events_2c_1b_0 : TSA := (tIfS (tOr (tBl (tBin NeR (tCB LenR (tCons (tVar 2) tNil)) (tK (.d (.int 1))))) (tOr (tNot (tBl (tCB IsiR (tCons (tBin IxW (tVar 2) (tK (.d (.int 0)))) (tCons (tK (.v (.ty "str"))) tNil))))) (tBl (tBin NeR (tBin IxW (tVar 2) (tK (.d (.int 0)))) (tK (.d (.str "send"))))))) r_is_events_2c_1b_0a_0 tNext)
abbrev r_is_events_2c_1 : TSA := (tIfS (tBl (tBin EqR (tCB LenR (tCons (tVar 2) tNil)) (tK (.d (.int 2))))) r_is_events_2c_1a_0 r_is_events_2c_1b_0)
def r_is_events_2c_0 : TSA := tSeq (tIfS (tNot (tBl (tCB IsiR (tCons (tVar 2) (tCons (tK (.v (.ty "tuple"))) tNil))))) r_is_events_2c_0a_0 tNext) r_is_events_2c_1
def r_is_events_3 : TSA := (tRet (tCall Pk.sp_are_keys (tCons (tLend (tVar 1)) tNil)))
abbrev r_is_events_2 : TSA := tSeq (tFor [0] (iL (tVar 0)) (gName 2) r_is_events_2c_0) r_is_events_3
abbrev r_is_events_1 : TSA := tSeq (tAsg (tK (WD [])) (gName 1)) r_is_events_2
abbrev r_is_events_0 : TSA := tSeq (tIfS (tNot (tBl (tCB IsiR (tCons (tVar 0) (tCons (tK (.v (.ty "list"))) tNil))))) r_is_events_0a_0 tNext) r_is_events_1

/-- the dict of the keys -/
def kD1 (ks : List Str) : List (Key × PyData) := ks.map fun k => ((Sum.inr k : Key), .bool true)
theorem kD1_put (ks : List Str) (y : Str) : putD (kD1 ks) (Sum.inr y : Key) (.bool true) = kD1 (firsts ks [some y]) := by
  have ha : ((kD1 ks).any fun z => decide (z.1 = (Sum.inr y : Key))) = decide (y ∈ ks) := by
    induction ks with
    | nil => rfl
    | cons p q ih =>
      show (decide ((Sum.inr p : Key) = Sum.inr y) || (kD1 q).any _) = _
      rw [ih]
      by_cases e : p = y
      · simp [e]
      · simp [e, Ne.symm e]
  unfold putD
  rw [ha]
  show _ = kD1 (if y ∈ ks then ks else ks ++ [y])
  by_cases h : y ∈ ks
  · rw [if_pos (by simpa using h), if_pos h]
    unfold kD1
    rw [List.map_map]
    refine List.map_congr_left fun p _ => ?_
    show (if (Sum.inr p : Key) = Sum.inr y then _ else _) = _
    by_cases e : p = y
    · rw [if_pos (by rw [e]), e]
    · rw [if_neg (fun z => e (Sum.inr.inj z))]
  · rw [if_neg (by simpa using h), if_neg h]
    unfold kD1
    rw [List.map_append]
    rfl
theorem firsts_app : ∀ (es fs : List Ev) (acc : List Str), firsts acc (es ++ fs) = firsts (firsts acc es) fs
  | [], _, _ => rfl
  | none :: es, fs, acc => firsts_app es fs acc
  | some k :: es, fs, acc => firsts_app es fs _
theorem firsts_len : ∀ (es : List Ev) (acc : List Str), (firsts acc es).length ≤ acc.length + es.length
  | [], acc => Nat.le_add_right ..
  | none :: es, acc => by
    have := firsts_len es acc
    show (firsts acc es).length ≤ _
    rw [List.length_cons]
    omega
  | some k :: es, acc => by
    have := firsts_len es (if k ∈ acc then acc else acc ++ [k])
    show (firsts (if k ∈ acc then acc else acc ++ [k]) es).length ≤ _
    have z : (if k ∈ acc then acc else acc ++ [k]).length ≤ acc.length + 1 := by
      split <;> simp
    rw [List.length_cons]
    omega
theorem firsts_mem {k : Str} : ∀ (es : List Ev) (acc : List Str), k ∈ firsts acc es → k ∈ acc ∨ some k ∈ es
  | [], acc, h => .inl h
  | none :: es, acc, h => (firsts_mem es acc h).imp_right (List.mem_cons_of_mem _)
  | some z :: es, acc, h => by
    rcases firsts_mem es _ h with h | h
    · split at h
      · exact .inl h
      · rcases List.mem_append.mp h with h | h
        · exact .inl h
        · have : k = z := by simpa using h
          exact .inr (by rw [this]; exact List.mem_cons_self)
    · exact .inr (List.mem_cons_of_mem _ h)
theorem sum_len {ks : List Str} (h : ∀ k ∈ ks, k.length ≤ 100) : (ks.map (·.length)).sum ≤ ks.length * 100 := by
  induction ks with
  | nil => simp
  | cons k ks ih =>
    have h1 := h k List.mem_cons_self
    have h2 := ih fun z hz => h z (List.mem_cons_of_mem _ hz)
    rw [List.map_cons, List.sum_cons, List.length_cons]
    omega
theorem rd_is_events {ws : List W} {Q : W → List W → Prop} (h : sp_is_events ws Q) : r_is_events_0 (endsW [0] ws Q) (startW ["value", "keys", "event", "word", "key"] ws) := by
  obtain ⟨w, es, rfl, hw, ⟨hl, hk⟩, h⟩ := h
  have big := lineBig
  show r_is_events_0 _ [some w, none, none, none, none]
  have fin : ∀ (x2 x3 x4 : Option W), r_is_events_3 (endsW [0] [w] Q) [some w, some (WD (kD1 (firsts [] es))), x2, x3, x4] := by
    intro x2 x3 x4
    have l1 := firsts_len es []
    have l2 : ∀ k ∈ firsts [] es, k.length ≤ 100 := fun k hk2 => hk k ((firsts_mem es [] hk2).resolve_left (by simp))
    have l3 := sum_len l2
    simp only [List.length_nil] at l1
    unfold r_is_events_3
    walk_at "go"
    refine go_are_keys (ys := firsts [] es) (.K (by unfold kD1; rw [List.map_map]; rfl)) (by omega) ?_
    walk_at "go"
    cases hw
    · walk_at "end"
      exact h
    · walk_at "end"
      exact h
  have turn : ∀ {D : EndsA} (ks : List Str) (e : Ev) (x2 x3 x4 : Option W), ks.length ≤ 50000 → (∀ x3 x4, NxE D [some w, some (WD (kD1 (firsts ks [e]))), some (.d (evD e)), x3, x4]) → r_is_events_2c_0 D [some w, some (WD (kD1 ks)), some (.d (evD e)), x3, x4] := by
    intro D ks e x2 x3 x4 l k
    unfold r_is_events_2c_0
    cases e with
    | none =>
      walk_at "go"
      exact k _ _
    | some y =>
      have hdl : (kD1 ks).length < sizeLine := by unfold kD1; rw [List.length_map]; omega
      have hput := kD1_put ks y
      walk_at "go"
      show gTup 2 _ (.d (.tuple [.str "write", .str y])) _ _
      walk_at "go"
      rw [hput]
      exact k _ _
  have st : ∀ {j : Nat} {e : Ev}, es[j]? = some e → firsts [] (es.take (j + 1)) = firsts (firsts [] (es.take j)) [e] := fun {j e} he => by
    rw [List.take_succ, he, firsts_app]
    rfl
  have sl : ∀ j, j ≤ es.length → (firsts [] (es.take j)).length ≤ 50000 := fun j hj => by
    have := firsts_len (es.take j) []
    simp at this
    omega
  cases hw with
  | d =>
    walk_at "go"
    refine g_forV (fun j ε => ∃ x2 x3 x4, ε = [some (.d (.list (es.map evD))), some (WD (kD1 (firsts [] (es.take j)))), x2, x3, x4]) ⟨_, _, _, rfl⟩ ?_ ?_
    · rintro j d ε hd ⟨x2, x3, x4, rfl⟩
      rw [List.getElem?_map] at hd
      obtain ⟨e, he, rfl⟩ := Option.map_eq_some_iff.mp hd
      walk_at "go"
      refine turn _ e x2 _ _ (sl j (Nat.le_of_lt (List.getElem?_eq_some_iff.mp he).1)) fun x3 x4 => ?_
      walk_at "go"
      exact ⟨_, _, _, by rw [st he]⟩
    · rintro ε ⟨x2, x3, x4, rfl⟩
      rw [List.length_map, List.take_length]
      walk_at "go"
      exact fin _ _ _
  | L =>
    walk_at "go"
    refine g_forS (fun j ε => ∃ x2 x3 x4, ε = [some (.lst ((es.map evD).map W.d)), some (WD (kD1 (firsts [] (es.take j)))), x2, x3, x4]) (by decide) rfl ⟨_, _, _, rfl⟩ (by rintro j ε ⟨_, _, _, rfl⟩; rfl) ?_ ?_
    · rintro j d ε hd ⟨x2, x3, x4, rfl⟩
      rw [List.getElem?_map] at hd
      obtain ⟨e, he, rfl⟩ := Option.map_eq_some_iff.mp hd
      walk_at "go"
      refine turn _ e x2 _ _ (sl j (Nat.le_of_lt (List.getElem?_eq_some_iff.mp he).1)) fun x3 x4 => ?_
      walk_at "go"
      exact ⟨_, _, _, by rw [st he]⟩
    · rintro ε ⟨x2, x3, x4, rfl⟩
      rw [List.length_map, List.take_length]
      walk_at "go"
      exact fin _ _ _
end Pk

namespace Pk
open PySem PySem.Spec PyProof.Rows L2 Ab Lc

local macro_rules | `(tactic| walk_at "sd") => `(tactic| first | assumption | omega | exact True.intro | decide | (simp only [List.length_map, List.length_append, List.length_cons, List.length_nil, List.length_range, List.length_replicate]; omega))
local macro_rules | `(tactic| walk_at "dl") => `(tactic| first | assumption | exact .d _ | exact .L _ | exact DL.n | (apply DL.c; walk_at "dl"))
local macro_rules | `(tactic| walk_at "rfys") => `(tactic| first | exact .nil | (apply Rfys.cons; (walk_at "rfy"); (walk_at "rfys")))
local macro_rules | `(tactic| walk_at "rfy") => `(tactic| first | exact .d _ | exact .L _ | assumption | (apply Rfy.lst; walk_at "rfys"))
local macro_rules | `(tactic| walk_at "at") => `(tactic| first | assumption | exact rfl | (apply atI_nat; first | assumption | exact rfl))
local macro_rules | `(tactic| walk_at "rel") => `(tactic| first
  | assumption
  | exact .int
  | exact .str
  | exact .mk
  | exact .bool
  | ((refine' MulR.int ?k1); (case k1 => (refine' cmulA ?k2 ?k3; (case k2 => walk_at "sd"); (case k3 => walk_at "sd"))))
  | ((refine' MulR.str ?k1); (case k1 => walk_at "sd"))
  | ((refine' mulL ?k1 ?k2 ?k3); (case k1 => walk_at "dl"); (case k2 => walk_at "sd"); (case k3 => walk_at "sd"))
  | ((refine' IxW.S ?k1 ?k2); (case k1 => first | walk_at "sd" | decide +kernel); (case k2 => walk_at "at"))
  | ((refine' IntR.mk ?k1); (case k1 => first | walk_at "sd" | (refine' cdivA ?k2 ?k3; (case k2 => walk_at "sd"); (case k3 => walk_at "sd")) | (refine' cpow3A ?k2; (case k2 => walk_at "sd"))))
  | ((refine' IxW.L ?k1 ?k2); (case k1 => walk_at "dl"); (case k2 => walk_at "at"))
  | ((refine' IxW.T ?k1 ?k2); (case k1 => exact .d _); (case k2 => walk_at "at"))
  | exact lenM
  | exact lenD
  | ((refine' LenR.L ?k1); (case k1 => walk_at "dl"))
  | ((refine' LenR.T ?k1); (case k1 => exact .d _))
  | ((refine' LenR.S ?k1); (case k1 => walk_at "sd"))
  | ((refine' ListR.L ?k1); (case k1 => walk_at "dl"))
  | ((refine' ListR.T ?k1); (case k1 => exact .d _))
  | ((refine' ListSR.mk ?k1); (case k1 => first | walk_at "sd" | decide +kernel))
  | ((refine' InR.strL ?k1); (case k1 => walk_at "dl"))
  | ((refine' AddR.str ?k1); (case k1 => walk_at "sd"))
  | ((refine' AddR.lst ?k1 ?k2 ?k3); (case k1 => walk_at "dl"); (case k2 => walk_at "dl"); (case k3 => walk_at "sd"))
  | ((refine' AppR.D ?k1); (case k1 => walk_at "sd"))
  | ((refine' AppR.G ?k1); (case k1 => walk_at "sd"))
  | ((refine' ExtR.mk ?k1); (case k1 => walk_at "sd"))
  | exact .mk True.intro
  | ((refine' InsR.mk ?k1 ?k2 ?k3); (case k1 => walk_at "sd"); (case k2 => walk_at "sd"); (case k3 => walk_at "sd"))
  | ((refine' IsiR.mk ?k1 ?k2); (case k1 => exact rfl); (case k2 => exact rfl))
  | ((refine' JoinXR.L ?k1 ?k2); (case k1 => walk_at "dl"); (case k2 => walk_at "sd"))
  | ((refine' StR0.mk ?k1); (case k1 => walk_at "sd"))
  | ((refine' JoinR.L ?k1 ?k2); (case k1 => walk_at "dl"); (case k2 => walk_at "sd"))
  | ((refine' DPopR.mk ?k1); (case k1 => walk_at "sd"))
  | ((refine' StrR.int ?k1); (case k1 => walk_at "sd")))
local macro_rules | `(tactic| walk_at "pu") => `(tactic| first | exact rfl | (apply puts_v; walk_at "pu") | (apply puts_fl; (walk_at "pu"); exact rfl))
local macro_rules | `(tactic| walk_at "ev") => `(tactic| dsimp only [List.set_cons_zero, List.set_cons_succ, List.set_nil, putW, putP, setsW, Nat.reduceAdd, Nat.zero_add, Int.reduceToNat, restW, wipeW, keepW, plainW, List.getElem?_cons_zero, List.getElem?_cons_succ, ↓reduceIte])
local macro_rules | `(tactic| walk_at "g1") => `(tactic| first
  | with_reducible refine' g_seq ?_
  | with_reducible refine' g_asg ?_
  | with_reducible refine' g_drop ?_
  | with_reducible refine' g_ret ?_
  | with_reducible refine' g_retN ?_
  | with_reducible refine' g_ifS ?_
  | with_reducible refine' g_next ?_
  | with_reducible refine' g_bin ?_
  | with_reducible refine' g_K ?_
  | ((with_reducible refine' g_varD ?h1 ?_); (case h1 => exact rfl))
  | ((with_reducible refine' g_varL ?h1 ?_); (case h1 => exact rfl))
  | ((with_reducible refine' g_varK ?h1 ?_); (case h1 => exact rfl))
  | ((with_reducible refine' g_varI ?h1 ?_); (case h1 => exact rfl))
  | ((with_reducible refine' g_varV ?h1 ?_); (case h1 => exact rfl))
  | ((with_reducible refine' g_binPow ?h1 ?h2 ?_); (case h1 => first | exact ⟨by decide, by decide⟩ | (refine' cpowA ?k2 ?k3; (case k2 => walk_at "sd"); (case k3 => decide))); (case h2 => first | ((dsimp only [Int.reduceToNat]); done) | ((dsimp only [Int.reduceToNat]); exact rfl)))
  | ((with_reducible refine' g_binV ?h1 ?_); (case h1 => walk_at "rel"))
  | ((with_reducible refine' g_binE ?h1 ?h2 ?h3 ?h4 ?h5 ?_); (case h1 => exact rfl); (case h2 => exact rfl); (case h3 => exact rfl); (case h4 => exact rfl); (case h5 => walk_at "rel"); try walk_at "ev")
  | with_reducible refine' g_bl ?_
  | with_reducible refine' g_blE ?_
  | with_reducible refine' g_and ?_
  | with_reducible refine' g_or ?_
  | with_reducible refine' g_not ?_
  | with_reducible refine' g_if ?_
  | with_reducible refine' g_andV ?_
  | with_reducible refine' g_orV ?_
  | with_reducible refine' g_notV ?_
  | with_reducible refine' g_boE ?_
  | with_reducible refine' g_ifInT ?_
  | with_reducible refine' g_ifInF ?_
  | with_reducible refine' g_ifN ?_
  | ((with_reducible refine' g_ifT ?h1 ?_); (case h1 => exact rfl))
  | ((with_reducible refine' g_ifF ?h1 ?_); (case h1 => exact rfl))
  | ((with_reducible refine' g_ifDT ?h1 ?_); (case h1 => first | assumption | omega))
  | ((with_reducible refine' g_ifDF ?h1 ?_); (case h1 => first | assumption | omega))
  | with_reducible refine' g_nil ?_
  | with_reducible refine' g_cons ?_
  | with_reducible refine' g_cb ?_
  | ((with_reducible refine' g_cbE ?h1 ?h2 ?h3 ?_); (case h1 => exact rfl); (case h2 => exact rfl); (case h3 => walk_at "rel"))
  | with_reducible refine' g_mut ?_
  | ((with_reducible refine' g_mutB ?h1 ?h2 ?_); (case h1 => exact rfl); (case h2 => exact rfl))
  | ((with_reducible refine' g_mutE0 ?h1 ?h2 ?h3 ?_); (case h1 => exact rfl); (case h2 => walk_at "rel"); (case h3 => exact rfl); try walk_at "ev")
  | ((with_reducible refine' g_mutE1 ?h1 ?h2 ?h3 ?_); (case h1 => exact rfl); (case h2 => walk_at "rel"); (case h3 => exact rfl); try walk_at "ev")
  | ((with_reducible refine' g_mutE2 ?h1 ?h2 ?h3 ?_); (case h1 => exact rfl); (case h2 => walk_at "rel"); (case h3 => exact rfl); try walk_at "ev")
  | with_reducible refine' g_neg ?_
  | with_reducible refine' g_negE ?_
  | with_reducible refine' g_lv ?_
  | ((with_reducible refine' g_lvE ?h1 ?h2 ?h3 ?_); (case h1 => exact rfl); (case h2 => exact rfl); (case h3 => walk_at "sd"))
  | with_reducible refine' g_rd ?_
  | ((with_reducible refine' g_rdB ?h1 ?h2 ?_); (case h1 => exact rfl); (case h2 => exact rfl))
  | ((with_reducible refine' g_rdE ?h1 ?h2 ?h3 ?_); (case h1 => exact rfl); (case h2 => exact rfl); (case h3 => walk_at "rel"))
  | with_reducible refine' g_own ?_
  | with_reducible refine' g_ownV ?_
  | with_reducible refine' g_frz ?_
  | with_reducible refine' g_frzD ?_
  | ((with_reducible refine' g_frzV ?h1 ?_); (case h1 => walk_at "rfy"))
  | ((with_reducible refine' g_frzS ?h1 ?h2 ?_); (case h1 => exact rfl); (case h2 => walk_at "rfy"); try walk_at "ev")
  | with_reducible refine' g_lend ?_
  | with_reducible refine' g_lendV ?_
  | with_reducible refine' g_lendF ?_
  | ((with_reducible refine' g_lendS ?h1 (fun _ => ?_)); (case h1 => exact rfl); try walk_at "ev")
  | with_reducible refine' g_late ?_
  | with_reducible refine' g_lateN ?_
  | with_reducible refine' g_lateV ?_
  | with_reducible refine' g_lateF ?_
  | ((with_reducible refine' g_lateS ?h1 (fun _ => ?_)); (case h1 => exact rfl); try walk_at "ev")
  | with_reducible refine' g_call ?_
  | ((with_reducible refine' g_callE ?h1 ?_); (case h1 => exact rfl); try dsimp only)
  | ((with_reducible refine' g_putE ?h1 ?h2 ?_); (case h1 => exact rfl); (case h2 => walk_at "pu"); try walk_at "ev")
  | with_reducible refine' g_lst ?_
  | ((with_reducible refine' g_lstE ?h1 ?h2 ?_); (case h1 => exact rfl); (case h2 => exact rfl))
  | with_reducible refine' g_tup ?_
  | ((with_reducible refine' g_tupE ?h1 ?h2 ?h3 ?_); (case h1 => exact rfl); (case h2 => walk_at "rfys"); (case h3 => exact rfl))
  | with_reducible refine' g_noPart ?_
  | with_reducible refine' g_part ?_
  | with_reducible refine' g_partE ?_
  | with_reducible refine' g_sl ?_
  | ((with_reducible refine' g_slE ?h1 ?h2 ?h3 ?_); (case h1 => exact rfl); (case h2 => exact rfl); (case h3 => walk_at "dl"))
  | with_reducible refine' g_dget ?_
  | ((with_reducible refine' g_dgetS ?h1 ?h2 ?h3 ?_); (case h1 => exact rfl); (case h2 => first | assumption | exact rfl); (case h3 => exact rfl))
  | ((with_reducible refine' g_dgetI ?h1 ?h2 ?h3 ?_); (case h1 => exact rfl); (case h2 => first | assumption | exact rfl); (case h3 => exact rfl))
  | with_reducible refine' g_din ?_
  | ((with_reducible refine' g_dinS ?h1 ?h2 ?_); (case h1 => exact rfl); (case h2 => exact rfl))
  | ((with_reducible refine' g_ninS ?h1 ?h2 ?_); (case h1 => exact rfl); (case h2 => exact rfl))
  | ((with_reducible refine' g_dinI ?h1 ?h2 ?_); (case h1 => exact rfl); (case h2 => exact rfl))
  | ((with_reducible refine' g_ninI ?h1 ?h2 ?_); (case h1 => exact rfl); (case h2 => exact rfl))
  | with_reducible refine' g_dg2 ?_
  | ((with_reducible refine' g_dg2E ?h1 ?_); (case h1 => exact rfl))
  | ((with_reducible refine' g_dg2S' ?h1 ?h2 ?h3 ?_); (case h1 => exact rfl); (case h2 => assumption); (case h3 => exact rfl))
  | ((with_reducible refine' g_dg2I' ?h1 ?h2 ?h3 ?_); (case h1 => exact rfl); (case h2 => assumption); (case h3 => exact rfl))
  | ((with_reducible refine' g_dg2S ?h1 ?h2 ?_); (case h1 => exact rfl); (case h2 => exact rfl))
  | ((with_reducible refine' g_dg2I ?h1 ?h2 ?_); (case h1 => exact rfl); (case h2 => exact rfl))
  | with_reducible refine' g_dg1 ?_
  | ((with_reducible refine' g_dg1E ?h1 ?_); (case h1 => exact rfl))
  | ((with_reducible refine' g_dg1S' ?h1 ?h2 ?h3 ?_); (case h1 => exact rfl); (case h2 => assumption); (case h3 => exact rfl))
  | ((with_reducible refine' g_dg1S ?h1 ?h2 ?_); (case h1 => exact rfl); (case h2 => exact rfl))
  | ((with_reducible refine' g_dg1I ?h1 ?h2 ?_); (case h1 => exact rfl); (case h2 => exact rfl))
  | with_reducible refine' g_ch ?_
  | ((with_reducible refine' g_chE ?h1 ?_); (case h1 => walk_at "rel"))
  | ((with_reducible refine' g_chF ?h1 ?_); (case h1 => walk_at "rel"))
  | with_reducible refine' g_tru ?_
  | ((with_reducible refine' g_truE ?h1 ?h2 ?h3 ?_); (case h1 => exact rfl); (case h2 => exact rfl); (case h3 => constructor))
  | with_reducible refine' g_dropV ?_
  | ((with_reducible refine' g_dropE ?h1 ?_); (case h1 => exact rfl); try walk_at "ev")
  | with_reducible refine' g_asgV ?_
  | ((with_reducible refine' g_name ?h1 ?h2 ?_); (case h1 => exact rfl); (case h2 => first | ((walk_at "ev"); exact rfl) | ((walk_at "ev"); done) | exact rfl))
  | ((with_reducible refine' g_gtup ?h1 ?_); (case h1 => exact rfl))
  | with_reducible refine' g_gnil ?_
  | with_reducible refine' g_gcons ?_
  | with_reducible refine' g_gix ?_
  | ((with_reducible refine' g_gixE ?h1 ?h2 ?_); (case h1 => exact rfl); (case h2 => first | assumption | exact rfl); try walk_at "ev")
  | with_reducible refine' g_dput ?_
  | ((with_reducible refine' g_dputS ?h1 ?h2 ?h3 ?_); (case h1 => exact rfl); (case h2 => walk_at "sd"); (case h3 => exact rfl); try walk_at "ev")
  | ((with_reducible refine' g_dputI ?h1 ?h2 ?h3 ?_); (case h1 => exact rfl); (case h2 => walk_at "sd"); (case h3 => exact rfl); try walk_at "ev")
  | ((with_reducible refine' g_aug ?h1 ?_); (case h1 => exact rfl))
  | ((with_reducible refine' g_augE ?h1 ?h2 ?h3 ?h4 ?h5 ?_); (case h1 => exact rfl); (case h2 => exact rfl); (case h3 => walk_at "rel"); (case h4 => exact rfl); (case h5 => first | ((walk_at "ev"); exact rfl) | ((walk_at "ev"); done) | exact rfl))
  | with_reducible refine' g_par ?_
  | ((with_reducible refine' g_parE ?h1 ?h2 ?h3 ?h4 ?_); (case h1 => exact rfl); (case h2 => exact rfl); (case h3 => exact rfl); (case h4 => first | ((walk_at "ev"); exact rfl) | ((walk_at "ev"); done) | exact rfl))
  | with_reducible refine' g_iR1 ?_
  | ((with_reducible refine' g_r1E ?h1 ?_); (case h1 => walk_at "sd"))
  | with_reducible refine' g_iR2 ?_
  | ((with_reducible refine' g_r2E ?h1 ?_); (case h1 => walk_at "sd"))
  | with_reducible refine' g_iL ?_
  | ((with_reducible refine' g_iLE ?h1 ?h2 ?_); (case h1 => exact rfl); (case h2 => walk_at "dl"))
  | with_reducible refine' g_iT ?_
  | ((with_reducible refine' g_iTE ?h1 ?h2 ?_); (case h1 => exact rfl); (case h2 => exact .d _))
  | with_reducible refine' g_iS ?_
  | with_reducible refine' g_iSE ?_
  | with_reducible refine' g_iE ?_
  | ((with_reducible refine' g_iEE ?h1 ?h2 ?_); (case h1 => exact rfl); (case h2 => walk_at "dl"))
  | with_reducible refine' g_for ?_
  | with_reducible refine' g_comp ?_
  | with_reducible refine' g_yes ?_
  | ((with_reducible refine' g_accV ?h1 ?_); (case h1 => walk_at "sd"))
  | with_reducible refine' g_nxS ?_
  | with_reducible refine' g_nxF ?_
  | with_reducible refine' g_nxW ?_
  | with_reducible refine' g_rtS ?_
  | with_reducible refine' g_rtF ?_
  | with_reducible refine' g_rtW ?_
  | ((with_reducible refine' g_ownE ?h1 ?_); (case h1 => exact .mv rfl); try walk_at "ev")
  | with_reducible refine' g_bk ?_
  | with_reducible refine' g_ct ?_
  | with_reducible refine' g_bkS ?_
  | with_reducible refine' g_bkF ?_
  | with_reducible refine' g_bkW ?_
  | with_reducible refine' g_nxK ?_
  | with_reducible refine' g_ctK ?_
  | ((with_reducible refine' g_rtK ?h1 ?_); (case h1 => (simp only [List.length_cons, List.length_nil, List.length_set]; omega)); try walk_at "ev")
  | ((with_reducible refine' g_bkK ?h1 ?_); (case h1 => (simp only [List.length_cons, List.length_nil, List.length_set]; omega)); try walk_at "ev")
  | with_reducible refine' g_ctS ?_
  | with_reducible refine' g_ctF ?_
  | with_reducible refine' g_ctW ?_)
local macro_rules | `(tactic| walk_at "go") => `(tactic| repeat walk_at "g1")
local macro_rules | `(tactic| walk_at "end") => `(tactic| first
  | ((with_reducible refine' g_end ?h1 ?h2 ?h3 ?_); (case h1 => first | exact .v _ _ | exact .mv rfl); (case h2 => exact rfl); (case h3 => exact rfl))
  | ((with_reducible refine' g_endN ?h2 ?h3 ?_); (case h2 => exact rfl); (case h3 => exact rfl)))
/-! ## played, is_run, checked_run -/
/-- what playing tells: how far it came -/
def farQ (es : List Ev) : Nat := (playQ [] 0 es).1.length + (playQ [] 0 es).2.1.length
def runB (es : List Ev) : Bool := akB (firsts [] es) && decide (farQ es = es.length)
def plD (es : List Ev) : PyData := if runB es = true then playD (playQ [] 0 es) else .none
def sp_played : SpW := fun ws Q => ∃ w es, ws = [w] ∧ DL w (es.map evD) ∧ Small es ∧ Q (.d (plD es)) ws
theorem len_played {ws : List W} {Q : W → List W → Prop} (h : sp_played ws Q) : ws.length = 1 := by obtain ⟨_, _, rfl, _⟩ := h; rfl
theorem mono_played : SpW.Mono sp_played := fun ws Q Q' h ⟨w, ys, e, h1, h2, q⟩ => ⟨w, ys, e, h1, h2, h _ _ q⟩
theorem go_played {w : W} {es : List Ev} {Q : W → List W → Prop} (h : DL w (es.map evD)) (h2 : Small es) (k : Q (.d (plD es)) [w]) : sp_played [w] Q := ⟨w, es, rfl, h, h2, k⟩
/-- played: slots 0 value 1 found -/
abbrev r_played_0a_0 : TSA := (tRet (tK (.d .none)))
abbrev r_played_2 : TSA := (tRet (tIf (tBl (tBin EqR (tBin AddR (tCB LenR (tCons (tBin IxW (tVar 1) (tK (.d (.int 0)))) tNil)) (tCB LenR (tCons (tBin IxW (tVar 1) (tK (.d (.int 1)))) tNil))) (tCB LenR (tCons (tVar 0) tNil)))) (tVar 1) (tK (.d .none))))
abbrev r_played_1 : TSA := tSeq (tAsg (tCall Pk.sp_play (tCons (tLend (tVar 0)) tNil)) (gName 1)) r_played_2
abbrev r_played_0 : TSA := tSeq (tIfS (tNot (tBl (tCall Pk.sp_is_events (tCons (tLend (tVar 0)) tNil)))) r_played_0a_0 tNext) r_played_1

theorem playQ_len : ∀ (es : List Ev) (q : Qu) (n : Nat), (playQ q n es).1.length ≤ es.length ∧ (playQ q n es).2.1.length ≤ es.length
  | [], q, n => by cases q <;> exact ⟨Nat.le_refl _, Nat.le_refl _⟩
  | some k :: es, q, n => by
    have h := playQ_len es (putQ q k n) (n + 1)
    cases q <;> (simp only [playQ, List.length_cons]; omega)
  | none :: es, [], n => by simp [playQ]
  | none :: es, x :: q, n => by
    have h := playQ_len es q n
    simp only [playQ, List.length_cons]
    omega
theorem rd_played {ws : List W} {Q : W → List W → Prop} (h : sp_played ws Q) : r_played_0 (endsW [0] ws Q) (startW ["value", "found"] ws) := by
  obtain ⟨w, es, rfl, hw, sm, h⟩ := h
  have big := lineBig
  have hl := sm.1
  have l1 := playQ_len es [] 0
  show r_played_0 _ [some w, none]
  cases hw with
  | d =>
    walk_at "go"
    refine go_is_events (.d _) sm ?_
    walk_at "go"
    refine ifB (fun a => ?_) (fun a => ?_)
    · walk_at "go"
      refine go_play (.d _) (by omega) ?_
      unfold playD
      walk_at "go"
      refine g_ifD (fun b => ?_) (fun b => ?_)
      · walk_at "go"
        walk_at "end"
        have e : plD es = playD (playQ [] 0 es) := by
          unfold plD runB
          rw [if_pos]
          rw [a, decide_eq_true (by unfold farQ; omega)]
          rfl
        rw [e] at h
        exact h
      · walk_at "go"
        walk_at "end"
        have e : plD es = .none := by
          unfold plD runB
          rw [if_neg]
          rw [a, decide_eq_false (by unfold farQ; omega)]
          simp
        rw [e] at h
        exact h
    · walk_at "go"
      walk_at "end"
      have e : plD es = .none := by
        unfold plD runB
        rw [if_neg]
        rw [a]
        simp
      rw [e] at h
      exact h
  | L =>
    walk_at "go"
    refine go_is_events (.L _) sm ?_
    walk_at "go"
    refine ifB (fun a => ?_) (fun a => ?_)
    · walk_at "go"
      refine go_play (.L _) (by omega) ?_
      unfold playD
      walk_at "go"
      refine g_ifD (fun b => ?_) (fun b => ?_)
      · walk_at "go"
        walk_at "end"
        have e : plD es = playD (playQ [] 0 es) := by
          unfold plD runB
          rw [if_pos]
          rw [a, decide_eq_true (by unfold farQ; omega)]
          rfl
        rw [e] at h
        exact h
      · walk_at "go"
        walk_at "end"
        have e : plD es = .none := by
          unfold plD runB
          rw [if_neg]
          rw [a, decide_eq_false (by unfold farQ; omega)]
          simp
        rw [e] at h
        exact h
    · walk_at "go"
      walk_at "end"
      have e : plD es = .none := by
        unfold plD runB
        rw [if_neg]
        rw [a]
        simp
      rw [e] at h
      exact h
def sp_is_run : SpW := fun ws Q => ∃ w es, ws = [w] ∧ DL w (es.map evD) ∧ Small es ∧ Q (.d (.bool (runB es))) ws
theorem len_is_run {ws : List W} {Q : W → List W → Prop} (h : sp_is_run ws Q) : ws.length = 1 := by obtain ⟨_, _, rfl, _⟩ := h; rfl
theorem mono_is_run : SpW.Mono sp_is_run := fun ws Q Q' h ⟨w, ys, e, h1, h2, q⟩ => ⟨w, ys, e, h1, h2, h _ _ q⟩
theorem go_is_run {w : W} {es : List Ev} {Q : W → List W → Prop} (h : DL w (es.map evD)) (h2 : Small es) (k : Q (.d (.bool (runB es))) [w]) : sp_is_run [w] Q := ⟨w, es, rfl, h, h2, k⟩
/-- is_run: slots 0 value -/
abbrev r_is_run_0 : TSA := (tRet (tBin NotNR (tCall Pk.sp_played (tCons (tLend (tVar 0)) tNil)) (tK (.d .none))))
theorem rd_is_run {ws : List W} {Q : W → List W → Prop} (h : sp_is_run ws Q) : r_is_run_0 (endsW [0] ws Q) (startW ["value"] ws) := by
  obtain ⟨w, es, rfl, hw, sm, h⟩ := h
  show r_is_run_0 _ [some w]
  have e : (!isNon (plD es)) = runB es := by
    unfold plD
    cases runB es <;> rfl
  cases hw with
  | d =>
    walk_at "go"
    refine go_played (.d _) sm ?_
    walk_at "go"
    walk_at "end"
    rw [e]
    exact h
  | L =>
    walk_at "go"
    refine go_played (.L _) sm ?_
    walk_at "go"
    walk_at "end"
    rw [e]
    exact h
end Pk

namespace Pk
open PySem PySem.Spec PyProof.Rows L2 Ab Lc
/-! ## what a key is, sign by sign -/
def letC (c : Nat) : Bool := decide (97 ≤ c) && decide (c ≤ 122)
def okC (c : Nat) : Bool := letC c || (decide (48 ≤ c) && decide (c ≤ 57)) || decide (c = 95)
/-- a key that begins with a letter (the document's keys, and no others that the laws draw) -/
def okKey (y : Str) : Bool := match y.cps.toList with
  | [] => false
  | c :: r => letC c && r.all okC && decide (r.length < 12)
def signs (ys : List Str) : List Nat := 32 :: (Txt.join " " ys).cps.toList
theorem signs_nil : signs [] = [32] := rfl
theorem signs_one (y : Str) : signs [y] = 32 :: (y.cps.toList ++ []) := by
  unfold signs
  rw [show Txt.join " " [y] = Str.join " " [y] from StrLaws.glued_eq_join _ _, List.append_nil]
  rfl
theorem signs_cons (y z : Str) (r : List Str) : signs (y :: z :: r) = 32 :: (y.cps.toList ++ signs (z :: r)) := by
  unfold signs
  rw [show Txt.join " " (y :: z :: r) = Str.join " " (y :: z :: r) from StrLaws.glued_eq_join _ _, show Txt.join " " (z :: r) = Str.join " " (z :: r) from StrLaws.glued_eq_join _ _]
  show 32 :: (y ++ " " ++ Str.join " " (z :: r)).cps.toList = _
  rw [Str.cps_append, Str.cps_append, Array.toList_append, Array.toList_append, List.append_assoc]
  rfl
theorem textOf_cps (ys : List Str) : (textOf ys).cps.toList = signs ys := by
  unfold textOf signs
  rw [Str.cps_append, Array.toList_append]
  rfl
def Fine (L : List Nat) : Prop := (∀ c ∈ L, c = 32 ∨ okC c = true) ∧ ∀ i, L[i]? = some 32 → L[i + 1]? ≠ some 95
theorem okC_32 {c : Nat} (h : okC c = true) : c ≠ 32 := by
  unfold okC letC at h
  simp at h
  omega
theorem letC_okC {c : Nat} (h : letC c = true) : okC c = true := by unfold okC; rw [h]; rfl
theorem okKey_all {y : Str} (h : okKey y = true) : ∃ c r, y.cps.toList = c :: r ∧ letC c = true ∧ r.all okC = true ∧ r.length < 12 := by
  unfold okKey at h
  cases e : y.cps.toList with
  | nil => rw [e] at h; cases h
  | cons c r =>
    rw [e] at h
    simp only [Bool.and_eq_true, decide_eq_true_eq] at h
    exact ⟨c, r, rfl, h.1.1, h.1.2, h.2⟩
theorem fine_cons {y : Str} {R : List Nat} (hy : okKey y = true) (hR : Fine R) : Fine (32 :: (y.cps.toList ++ R)) := by
  obtain ⟨c, r, e, h1, h2, _⟩ := okKey_all hy
  have all : ∀ d ∈ y.cps.toList, okC d = true := fun d hd => by
    rw [e] at hd
    rcases List.mem_cons.mp hd with rfl | hd
    · exact letC_okC h1
    · exact List.all_eq_true.mp h2 d hd
  refine ⟨fun d hd => ?_, fun i hi => ?_⟩
  · rcases List.mem_cons.mp hd with rfl | hd
    · exact .inl rfl
    · rcases List.mem_append.mp hd with hd | hd
      · exact .inr (all d hd)
      · exact hR.1 d hd
  · cases i with
    | zero =>
      rw [e]
      show some c ≠ some 95
      intro z
      rw [Option.some.inj z] at h1
      simp [letC] at h1
    | succ i =>
      rw [List.getElem?_cons_succ] at hi ⊢
      by_cases hlt : i < y.cps.toList.length
      · rw [List.getElem?_append_left hlt] at hi
        exact absurd rfl (okC_32 (all 32 (List.mem_of_getElem? hi)))
      · rw [List.getElem?_append_right (by omega)] at hi ⊢
        have := hR.2 _ hi
        rwa [show i + 1 - y.cps.toList.length = i - y.cps.toList.length + 1 by omega]
theorem fine_signs : ∀ {ys : List Str}, (∀ y ∈ ys, okKey y = true) → Fine (signs ys)
  | [], _ => ⟨fun c hc => .inl (by simpa [signs_nil] using hc), fun i hi => by
    rw [signs_nil] at hi ⊢
    cases i with
    | zero => simp
    | succ i => simp at hi⟩
  | [y], h => by
    rw [signs_one]
    exact fine_cons (h y List.mem_cons_self) ⟨fun c hc => (List.not_mem_nil hc).elim, fun i hi => by simp at hi⟩
  | y :: z :: r, h => by
    rw [signs_cons]
    exact fine_cons (h y List.mem_cons_self) (fine_signs fun x hx => h x (List.mem_cons_of_mem _ hx))
theorem okC_low : ∀ c, c < 128 → okC c = true → lo1 c = c ∧ Unicode.isNameContinue c = true := by decide +kernel
theorem letC_start : ∀ c, c < 128 → letC c = true → Unicode.isNameStart c = true := by decide +kernel
theorem okC_lt {c : Nat} (h : okC c = true) : c < 128 := by
  unfold okC letC at h
  simp at h
  omega
theorem wordB_ok {y : Str} (h : okKey y = true) : wordB y = true := by
  obtain ⟨c, r, e, h1, h2, h3⟩ := okKey_all h
  have hl : y.length = r.length + 1 := by
    show y.cps.size = _
    rw [← Array.length_toList, e]
    rfl
  have hi : Txt.isidentifier y = true := by
    unfold Txt.isidentifier
    rw [e]
    show (Unicode.isNameStart c && r.all Unicode.isNameContinue) = true
    rw [letC_start c (okC_lt (letC_okC h1)) h1, Bool.true_and, List.all_eq_true]
    intro d hd
    have := List.all_eq_true.mp h2 d hd
    exact (okC_low d (okC_lt this) this).2
  unfold wordB
  rw [hi, decide_eq_false (by omega)]
  rfl
theorem textB_ok {ys : List Str} (h : ∀ y ∈ ys, okKey y = true) : textB (textOf ys) = true := by
  have fs := fine_signs h
  rw [← textOf_cps] at fs
  generalize textOf ys = t at fs
  have lt : ∀ c ∈ t.cps.toList, c < 128 := fun c hc => (fs.1 c hc).elim (fun z => by omega) okC_lt
  have h1 : Txt.isascii t = true := by
    unfold Txt.isascii
    rw [Array.all_eq_true']
    intro c hc
    exact decide_eq_true (lt c (by simpa using hc))
  have h2 : Txt.lower t = t := by
    have e : t.cps.map lo1 = t.cps := by
      apply Array.toList_inj.mp
      rw [Array.toList_map]
      have m : t.cps.toList.map lo1 = t.cps.toList.map _root_.id := List.map_congr_left fun c hc => by
        rcases fs.1 c hc with rfl | z
        · rfl
        · exact (okC_low c (okC_lt z) z).1
      rw [m, List.map_id]
    exact (lower_ascii lt).trans (congrArg PySem.Str.mk e)
  have h3 : (!(Builtin.Str.occurrences t " _" 0 t.length 1).isEmpty) = false := by
    rw [Bool.eq_false_iff]
    intro z
    obtain ⟨i, h4, h5⟩ := (StrLaws.found_iff t " _").mp z
    rw [StrLaws.subAt_eq] at h5
    have h5 := eq_of_beq h5
    have h6 : (t.cps.toList.drop i).take 2 = [32, 95] := h5
    have a : t.cps.toList[i]? = some 32 := by
      have := congrArg (fun l => l[0]?) h6
      simpa using this
    have b : t.cps.toList[i + 1]? = some 95 := by
      have := congrArg (fun l => l[1]?) h6
      simpa using this
    exact fs.2 i a b
  unfold textB
  rw [h1, h2, h3, decide_eq_true rfl]
  rfl
theorem akB_ok {ys : List Str} (h : ∀ y ∈ ys, okKey y = true) : akB ys = true := by
  unfold akB
  rw [textB_ok h, Bool.true_and, List.all_eq_true]
  exact fun y hy => wordB_ok (h y hy)
theorem okKey_len {y : Str} (h : okKey y = true) : y.length ≤ 12 := by
  obtain ⟨c, r, e, h1, h2, h3⟩ := okKey_all h
  show y.cps.size ≤ _
  rw [← Array.length_toList, e]
  exact h3
theorem okKey_strOk {y : Str} (h : okKey y = true) : PyData.strOk y = true := by
  obtain ⟨c, r, e, h1, h2, _⟩ := okKey_all h
  unfold PyData.strOk
  rw [Array.all_eq_true']
  intro d hd
  have hd : d ∈ y.cps.toList := by simpa using hd
  rw [e] at hd
  refine decide_eq_true ?_
  rcases List.mem_cons.mp hd with rfl | hd
  · have := okC_lt (letC_okC h1)
    omega
  · have := okC_lt (List.all_eq_true.mp h2 d hd)
    omega
/-- events whose keys are keys -/
def Good (es : List Ev) : Prop := ∀ k, some k ∈ es → okKey k = true
theorem Good.ev_shw {es : List Ev} (h : Good es) : ∀ d ∈ es.map evD, Shw d 1 300 := fun d hd => by
  obtain ⟨e, he, rfl⟩ := List.mem_map.mp hd
  have s1 : Shw (.str "send") 0 122 := (shw_str (x := "send") (by decide +kernel)).mono (Nat.le_refl _) (by decide)
  have s2 : Shw (.str "write") 0 122 := (shw_str (x := "write") (by decide +kernel)).mono (Nat.le_refl _) (by decide)
  cases e with
  | none => exact (shw_tup (xs := [.str "send"]) fun x hx => by rw [List.mem_singleton.mp hx]; exact s1).mono (by decide) (by decide)
  | some k =>
    have l := okKey_len (h k he)
    have s3 : Shw (.str k) 0 122 := (shw_str (okKey_strOk (h k he))).mono (Nat.le_refl _) (by omega)
    exact (shw_tup (xs := [.str "write", .str k]) fun x hx => by
      rcases List.mem_cons.mp hx with rfl | hx
      · exact s2
      · rw [List.mem_singleton.mp hx]; exact s3).mono (by decide) (by show 2 * 124 + 3 ≤ 300; decide)
theorem Good.shw {es : List Ev} (h : Good es) (hl : es.length ≤ 2100) : Shw (.list (es.map evD)) 2 1000000 :=
  (shw_list h.ev_shw).mono (Nat.le_refl _) (by rw [List.length_map]; omega)
theorem Good.repr {es : List Ev} {w : W} (h : Good es) (hl : es.length ≤ 2100) (r : Rfy w (.list (es.map evD))) : ReprR [w] (.d (.str (PyData.list (es.map evD)).shown)) := (h.shw hl).repr r (by decide) (by decide)
theorem Good.small {es : List Ev} (h : Good es) (hl : es.length ≤ 50000) : Small es := ⟨hl, fun k hk => Nat.le_trans (okKey_len (h k hk)) (by decide)⟩
theorem far_play : ∀ (es : List Ev) (q : Qu) (n : Nat), (playQ q n es).1.length + (playQ q n es).2.1.length ≤ es.length ∧ ((playQ q n es).1.length + (playQ q n es).2.1.length = es.length ↔ (play (q.map (·.1)) es).isSome = true)
  | [], q, n => by cases q <;> simp [playQ, play]
  | some k :: es, q, n => by
    have h := far_play es (putQ q k n) (n + 1)
    rw [putQ_keys] at h
    have e : playQ q n (some k :: es) = (k :: (playQ (putQ q k n) (n + 1) es).1, (playQ (putQ q k n) (n + 1) es).2.1, (playQ (putQ q k n) (n + 1) es).2.2) := by cases q <;> rfl
    have e2 : play (q.map (·.1)) (some k :: es) = play (if k ∈ q.map (·.1) then q.map (·.1) else q.map (·.1) ++ [k]) es := by cases q <;> rfl
    rw [e, e2, ← h.2]
    simp only [List.length_cons]
    omega
  | none :: es, [], n => by simp [playQ, play]
  | none :: es, x :: q, n => by
    have h := far_play es q n
    have e : playQ (x :: q) n (none :: es) = ((playQ q n es).1, x.2 :: (playQ q n es).2.1, (playQ q n es).2.2) := rfl
    have e2 : play ((x :: q).map (·.1)) (none :: es) = play (q.map (·.1)) es := rfl
    rw [e, e2, ← h.2]
    simp only [List.length_cons]
    omega
theorem Good.run {es : List Ev} (h : Good es) : runB es = (play [] es).isSome := by
  have h1 : akB (firsts [] es) = true := akB_ok fun y hy => h y ((firsts_mem es [] hy).resolve_left (by simp))
  have h2 := (far_play es [] 0).2
  unfold runB farQ
  rw [h1, Bool.true_and]
  rw [Bool.eq_iff_iff, decide_eq_true_eq]
  exact h2
theorem eq_nil {xs : List Str} (h : ∀ x ∈ xs, PyData.strOk x = true) : EqR (kW xs) (.lst []) (.d (.bool xs.isEmpty)) := by
  have := EqR.data (wx := kW xs) (wy := .lst []) (x := .list (xs.map PyData.str)) (y := .list []) (Rfy.L _) (.lst .nil) (shaped_list (n := 0) (by decide) (strs_lay h) strs_depth) (by decide +kernel)
  rwa [eqv_nil] at this
end Pk

namespace Pk
open PySem PySem.Spec PyProof.Rows L2 Ab Lc

local macro_rules | `(tactic| walk_at "sd") => `(tactic| first | assumption | omega | exact True.intro | decide | (simp only [List.length_map, List.length_append, List.length_cons, List.length_nil, List.length_range, List.length_replicate]; omega))
local macro_rules | `(tactic| walk_at "dl") => `(tactic| first | assumption | exact .d _ | exact .L _ | exact DL.n | (apply DL.c; walk_at "dl"))
local macro_rules | `(tactic| walk_at "rfys") => `(tactic| first | exact .nil | (apply Rfys.cons; (walk_at "rfy"); (walk_at "rfys")))
local macro_rules | `(tactic| walk_at "rfy") => `(tactic| first | exact .d _ | exact .L _ | assumption | (apply Rfy.lst; walk_at "rfys"))
local macro_rules | `(tactic| walk_at "at") => `(tactic| first | assumption | exact rfl | (apply atI_nat; first | assumption | exact rfl))
local macro_rules | `(tactic| walk_at "rel") => `(tactic| first
  | assumption
  | exact .int
  | exact .str
  | exact .mk
  | exact .bool
  | ((refine' MulR.int ?k1); (case k1 => (refine' cmulA ?k2 ?k3; (case k2 => walk_at "sd"); (case k3 => walk_at "sd"))))
  | ((refine' MulR.str ?k1); (case k1 => walk_at "sd"))
  | ((refine' mulL ?k1 ?k2 ?k3); (case k1 => walk_at "dl"); (case k2 => walk_at "sd"); (case k3 => walk_at "sd"))
  | ((refine' IxW.S ?k1 ?k2); (case k1 => first | walk_at "sd" | decide +kernel); (case k2 => walk_at "at"))
  | ((refine' IntR.mk ?k1); (case k1 => first | walk_at "sd" | (refine' cdivA ?k2 ?k3; (case k2 => walk_at "sd"); (case k3 => walk_at "sd")) | (refine' cpow3A ?k2; (case k2 => walk_at "sd"))))
  | ((refine' IxW.L ?k1 ?k2); (case k1 => walk_at "dl"); (case k2 => walk_at "at"))
  | ((refine' IxW.T ?k1 ?k2); (case k1 => exact .d _); (case k2 => walk_at "at"))
  | exact lenM
  | exact lenD
  | ((refine' LenR.L ?k1); (case k1 => walk_at "dl"))
  | ((refine' LenR.T ?k1); (case k1 => exact .d _))
  | ((refine' LenR.S ?k1); (case k1 => walk_at "sd"))
  | ((refine' ListR.L ?k1); (case k1 => walk_at "dl"))
  | ((refine' ListR.T ?k1); (case k1 => exact .d _))
  | ((refine' ListSR.mk ?k1); (case k1 => first | walk_at "sd" | decide +kernel))
  | ((refine' InR.strL ?k1); (case k1 => walk_at "dl"))
  | ((refine' AddR.str ?k1); (case k1 => walk_at "sd"))
  | ((refine' AddR.lst ?k1 ?k2 ?k3); (case k1 => walk_at "dl"); (case k2 => walk_at "dl"); (case k3 => walk_at "sd"))
  | ((refine' AppR.D ?k1); (case k1 => walk_at "sd"))
  | ((refine' AppR.G ?k1); (case k1 => walk_at "sd"))
  | ((refine' ExtR.mk ?k1); (case k1 => walk_at "sd"))
  | exact .mk True.intro
  | ((refine' InsR.mk ?k1 ?k2 ?k3); (case k1 => walk_at "sd"); (case k2 => walk_at "sd"); (case k3 => walk_at "sd"))
  | ((refine' IsiR.mk ?k1 ?k2); (case k1 => exact rfl); (case k2 => exact rfl))
  | ((refine' JoinXR.L ?k1 ?k2); (case k1 => walk_at "dl"); (case k2 => walk_at "sd"))
  | ((refine' StR0.mk ?k1); (case k1 => walk_at "sd"))
  | ((refine' JoinR.L ?k1 ?k2); (case k1 => walk_at "dl"); (case k2 => walk_at "sd"))
  | ((refine' DPopR.mk ?k1); (case k1 => walk_at "sd"))
  | ((refine' StrR.int ?k1); (case k1 => walk_at "sd")))
local macro_rules | `(tactic| walk_at "pu") => `(tactic| first | exact rfl | (apply puts_v; walk_at "pu") | (apply puts_fl; (walk_at "pu"); exact rfl))
local macro_rules | `(tactic| walk_at "ev") => `(tactic| dsimp only [List.set_cons_zero, List.set_cons_succ, List.set_nil, putW, putP, setsW, Nat.reduceAdd, Nat.zero_add, Int.reduceToNat, restW, wipeW, keepW, plainW, List.getElem?_cons_zero, List.getElem?_cons_succ, ↓reduceIte])
local macro_rules | `(tactic| walk_at "g1") => `(tactic| first
  | with_reducible refine' g_seq ?_
  | with_reducible refine' g_asg ?_
  | with_reducible refine' g_drop ?_
  | with_reducible refine' g_ret ?_
  | with_reducible refine' g_retN ?_
  | with_reducible refine' g_ifS ?_
  | with_reducible refine' g_next ?_
  | with_reducible refine' g_bin ?_
  | with_reducible refine' g_K ?_
  | ((with_reducible refine' g_varD ?h1 ?_); (case h1 => exact rfl))
  | ((with_reducible refine' g_varL ?h1 ?_); (case h1 => exact rfl))
  | ((with_reducible refine' g_varK ?h1 ?_); (case h1 => exact rfl))
  | ((with_reducible refine' g_varI ?h1 ?_); (case h1 => exact rfl))
  | ((with_reducible refine' g_varV ?h1 ?_); (case h1 => exact rfl))
  | ((with_reducible refine' g_binPow ?h1 ?h2 ?_); (case h1 => first | exact ⟨by decide, by decide⟩ | (refine' cpowA ?k2 ?k3; (case k2 => walk_at "sd"); (case k3 => decide))); (case h2 => first | ((dsimp only [Int.reduceToNat]); done) | ((dsimp only [Int.reduceToNat]); exact rfl)))
  | ((with_reducible refine' g_binV ?h1 ?_); (case h1 => walk_at "rel"))
  | ((with_reducible refine' g_binE ?h1 ?h2 ?h3 ?h4 ?h5 ?_); (case h1 => exact rfl); (case h2 => exact rfl); (case h3 => exact rfl); (case h4 => exact rfl); (case h5 => walk_at "rel"); try walk_at "ev")
  | with_reducible refine' g_bl ?_
  | with_reducible refine' g_blE ?_
  | with_reducible refine' g_and ?_
  | with_reducible refine' g_or ?_
  | with_reducible refine' g_not ?_
  | with_reducible refine' g_if ?_
  | with_reducible refine' g_andV ?_
  | with_reducible refine' g_orV ?_
  | with_reducible refine' g_notV ?_
  | with_reducible refine' g_boE ?_
  | with_reducible refine' g_ifInT ?_
  | with_reducible refine' g_ifInF ?_
  | with_reducible refine' g_ifN ?_
  | ((with_reducible refine' g_ifT ?h1 ?_); (case h1 => exact rfl))
  | ((with_reducible refine' g_ifF ?h1 ?_); (case h1 => exact rfl))
  | ((with_reducible refine' g_ifDT ?h1 ?_); (case h1 => first | assumption | omega))
  | ((with_reducible refine' g_ifDF ?h1 ?_); (case h1 => first | assumption | omega))
  | with_reducible refine' g_nil ?_
  | with_reducible refine' g_cons ?_
  | with_reducible refine' g_cb ?_
  | ((with_reducible refine' g_cbE ?h1 ?h2 ?h3 ?_); (case h1 => exact rfl); (case h2 => exact rfl); (case h3 => walk_at "rel"))
  | with_reducible refine' g_mut ?_
  | ((with_reducible refine' g_mutB ?h1 ?h2 ?_); (case h1 => exact rfl); (case h2 => exact rfl))
  | ((with_reducible refine' g_mutE0 ?h1 ?h2 ?h3 ?_); (case h1 => exact rfl); (case h2 => walk_at "rel"); (case h3 => exact rfl); try walk_at "ev")
  | ((with_reducible refine' g_mutE1 ?h1 ?h2 ?h3 ?_); (case h1 => exact rfl); (case h2 => walk_at "rel"); (case h3 => exact rfl); try walk_at "ev")
  | ((with_reducible refine' g_mutE2 ?h1 ?h2 ?h3 ?_); (case h1 => exact rfl); (case h2 => walk_at "rel"); (case h3 => exact rfl); try walk_at "ev")
  | with_reducible refine' g_neg ?_
  | with_reducible refine' g_negE ?_
  | with_reducible refine' g_lv ?_
  | ((with_reducible refine' g_lvE ?h1 ?h2 ?h3 ?_); (case h1 => exact rfl); (case h2 => exact rfl); (case h3 => walk_at "sd"))
  | with_reducible refine' g_rd ?_
  | ((with_reducible refine' g_rdB ?h1 ?h2 ?_); (case h1 => exact rfl); (case h2 => exact rfl))
  | ((with_reducible refine' g_rdE ?h1 ?h2 ?h3 ?_); (case h1 => exact rfl); (case h2 => exact rfl); (case h3 => walk_at "rel"))
  | with_reducible refine' g_own ?_
  | with_reducible refine' g_ownV ?_
  | with_reducible refine' g_frz ?_
  | with_reducible refine' g_frzD ?_
  | ((with_reducible refine' g_frzV ?h1 ?_); (case h1 => walk_at "rfy"))
  | ((with_reducible refine' g_frzS ?h1 ?h2 ?_); (case h1 => exact rfl); (case h2 => walk_at "rfy"); try walk_at "ev")
  | with_reducible refine' g_lend ?_
  | with_reducible refine' g_lendV ?_
  | with_reducible refine' g_lendF ?_
  | ((with_reducible refine' g_lendS ?h1 (fun _ => ?_)); (case h1 => exact rfl); try walk_at "ev")
  | with_reducible refine' g_late ?_
  | with_reducible refine' g_lateN ?_
  | with_reducible refine' g_lateV ?_
  | with_reducible refine' g_lateF ?_
  | ((with_reducible refine' g_lateS ?h1 (fun _ => ?_)); (case h1 => exact rfl); try walk_at "ev")
  | with_reducible refine' g_call ?_
  | ((with_reducible refine' g_callE ?h1 ?_); (case h1 => exact rfl); try dsimp only)
  | ((with_reducible refine' g_putE ?h1 ?h2 ?_); (case h1 => exact rfl); (case h2 => walk_at "pu"); try walk_at "ev")
  | with_reducible refine' g_lst ?_
  | ((with_reducible refine' g_lstE ?h1 ?h2 ?_); (case h1 => exact rfl); (case h2 => exact rfl))
  | with_reducible refine' g_tup ?_
  | ((with_reducible refine' g_tupE ?h1 ?h2 ?h3 ?_); (case h1 => exact rfl); (case h2 => walk_at "rfys"); (case h3 => exact rfl))
  | with_reducible refine' g_noPart ?_
  | with_reducible refine' g_part ?_
  | with_reducible refine' g_partE ?_
  | with_reducible refine' g_sl ?_
  | ((with_reducible refine' g_slE ?h1 ?h2 ?h3 ?_); (case h1 => exact rfl); (case h2 => exact rfl); (case h3 => walk_at "dl"))
  | with_reducible refine' g_dget ?_
  | ((with_reducible refine' g_dgetS ?h1 ?h2 ?h3 ?_); (case h1 => exact rfl); (case h2 => first | assumption | exact rfl); (case h3 => exact rfl))
  | ((with_reducible refine' g_dgetI ?h1 ?h2 ?h3 ?_); (case h1 => exact rfl); (case h2 => first | assumption | exact rfl); (case h3 => exact rfl))
  | with_reducible refine' g_din ?_
  | ((with_reducible refine' g_dinS ?h1 ?h2 ?_); (case h1 => exact rfl); (case h2 => exact rfl))
  | ((with_reducible refine' g_ninS ?h1 ?h2 ?_); (case h1 => exact rfl); (case h2 => exact rfl))
  | ((with_reducible refine' g_dinI ?h1 ?h2 ?_); (case h1 => exact rfl); (case h2 => exact rfl))
  | ((with_reducible refine' g_ninI ?h1 ?h2 ?_); (case h1 => exact rfl); (case h2 => exact rfl))
  | with_reducible refine' g_dg2 ?_
  | ((with_reducible refine' g_dg2E ?h1 ?_); (case h1 => exact rfl))
  | ((with_reducible refine' g_dg2S' ?h1 ?h2 ?h3 ?_); (case h1 => exact rfl); (case h2 => assumption); (case h3 => exact rfl))
  | ((with_reducible refine' g_dg2I' ?h1 ?h2 ?h3 ?_); (case h1 => exact rfl); (case h2 => assumption); (case h3 => exact rfl))
  | ((with_reducible refine' g_dg2S ?h1 ?h2 ?_); (case h1 => exact rfl); (case h2 => exact rfl))
  | ((with_reducible refine' g_dg2I ?h1 ?h2 ?_); (case h1 => exact rfl); (case h2 => exact rfl))
  | with_reducible refine' g_dg1 ?_
  | ((with_reducible refine' g_dg1E ?h1 ?_); (case h1 => exact rfl))
  | ((with_reducible refine' g_dg1S' ?h1 ?h2 ?h3 ?_); (case h1 => exact rfl); (case h2 => assumption); (case h3 => exact rfl))
  | ((with_reducible refine' g_dg1S ?h1 ?h2 ?_); (case h1 => exact rfl); (case h2 => exact rfl))
  | ((with_reducible refine' g_dg1I ?h1 ?h2 ?_); (case h1 => exact rfl); (case h2 => exact rfl))
  | with_reducible refine' g_ch ?_
  | ((with_reducible refine' g_chE ?h1 ?_); (case h1 => walk_at "rel"))
  | ((with_reducible refine' g_chF ?h1 ?_); (case h1 => walk_at "rel"))
  | with_reducible refine' g_tru ?_
  | ((with_reducible refine' g_truE ?h1 ?h2 ?h3 ?_); (case h1 => exact rfl); (case h2 => exact rfl); (case h3 => constructor))
  | with_reducible refine' g_dropV ?_
  | ((with_reducible refine' g_dropE ?h1 ?_); (case h1 => exact rfl); try walk_at "ev")
  | with_reducible refine' g_asgV ?_
  | ((with_reducible refine' g_name ?h1 ?h2 ?_); (case h1 => exact rfl); (case h2 => first | ((walk_at "ev"); exact rfl) | ((walk_at "ev"); done) | exact rfl))
  | ((with_reducible refine' g_gtup ?h1 ?_); (case h1 => exact rfl))
  | with_reducible refine' g_gnil ?_
  | with_reducible refine' g_gcons ?_
  | with_reducible refine' g_gix ?_
  | ((with_reducible refine' g_gixE ?h1 ?h2 ?_); (case h1 => exact rfl); (case h2 => first | assumption | exact rfl); try walk_at "ev")
  | with_reducible refine' g_dput ?_
  | ((with_reducible refine' g_dputS ?h1 ?h2 ?h3 ?_); (case h1 => exact rfl); (case h2 => walk_at "sd"); (case h3 => exact rfl); try walk_at "ev")
  | ((with_reducible refine' g_dputI ?h1 ?h2 ?h3 ?_); (case h1 => exact rfl); (case h2 => walk_at "sd"); (case h3 => exact rfl); try walk_at "ev")
  | ((with_reducible refine' g_aug ?h1 ?_); (case h1 => exact rfl))
  | ((with_reducible refine' g_augE ?h1 ?h2 ?h3 ?h4 ?h5 ?_); (case h1 => exact rfl); (case h2 => exact rfl); (case h3 => walk_at "rel"); (case h4 => exact rfl); (case h5 => first | ((walk_at "ev"); exact rfl) | ((walk_at "ev"); done) | exact rfl))
  | with_reducible refine' g_par ?_
  | ((with_reducible refine' g_parE ?h1 ?h2 ?h3 ?h4 ?_); (case h1 => exact rfl); (case h2 => exact rfl); (case h3 => exact rfl); (case h4 => first | ((walk_at "ev"); exact rfl) | ((walk_at "ev"); done) | exact rfl))
  | with_reducible refine' g_iR1 ?_
  | ((with_reducible refine' g_r1E ?h1 ?_); (case h1 => walk_at "sd"))
  | with_reducible refine' g_iR2 ?_
  | ((with_reducible refine' g_r2E ?h1 ?_); (case h1 => walk_at "sd"))
  | with_reducible refine' g_iL ?_
  | ((with_reducible refine' g_iLE ?h1 ?h2 ?_); (case h1 => exact rfl); (case h2 => walk_at "dl"))
  | with_reducible refine' g_iT ?_
  | ((with_reducible refine' g_iTE ?h1 ?h2 ?_); (case h1 => exact rfl); (case h2 => exact .d _))
  | with_reducible refine' g_iS ?_
  | with_reducible refine' g_iSE ?_
  | with_reducible refine' g_iE ?_
  | ((with_reducible refine' g_iEE ?h1 ?h2 ?_); (case h1 => exact rfl); (case h2 => walk_at "dl"))
  | with_reducible refine' g_for ?_
  | with_reducible refine' g_comp ?_
  | with_reducible refine' g_yes ?_
  | ((with_reducible refine' g_accV ?h1 ?_); (case h1 => walk_at "sd"))
  | with_reducible refine' g_nxS ?_
  | with_reducible refine' g_nxF ?_
  | with_reducible refine' g_nxW ?_
  | with_reducible refine' g_rtS ?_
  | with_reducible refine' g_rtF ?_
  | with_reducible refine' g_rtW ?_
  | ((with_reducible refine' g_ownE ?h1 ?_); (case h1 => exact .mv rfl); try walk_at "ev")
  | with_reducible refine' g_bk ?_
  | with_reducible refine' g_ct ?_
  | with_reducible refine' g_bkS ?_
  | with_reducible refine' g_bkF ?_
  | with_reducible refine' g_bkW ?_
  | with_reducible refine' g_nxK ?_
  | with_reducible refine' g_ctK ?_
  | ((with_reducible refine' g_rtK ?h1 ?_); (case h1 => (simp only [List.length_cons, List.length_nil, List.length_set]; omega)); try walk_at "ev")
  | ((with_reducible refine' g_bkK ?h1 ?_); (case h1 => (simp only [List.length_cons, List.length_nil, List.length_set]; omega)); try walk_at "ev")
  | with_reducible refine' g_ctS ?_
  | with_reducible refine' g_ctF ?_
  | with_reducible refine' g_ctW ?_)
local macro_rules | `(tactic| walk_at "go") => `(tactic| repeat walk_at "g1")
local macro_rules | `(tactic| walk_at "end") => `(tactic| first
  | ((with_reducible refine' g_end ?h1 ?h2 ?h3 ?_); (case h1 => first | exact .v _ _ | exact .mv rfl); (case h2 => exact rfl); (case h3 => exact rfl))
  | ((with_reducible refine' g_endN ?h2 ?h3 ?_); (case h2 => exact rfl); (case h3 => exact rfl)))
/-! ## first_fault -/
/-- the number of the first send that finds the queue empty -/
def faultAt : List Str → List Ev → Option Nat
  | _, [] => none
  | [], none :: _ => some 0
  | _ :: wt, none :: es => (faultAt wt es).map (· + 1)
  | wt, some k :: es => (faultAt (if k ∈ wt then wt else wt ++ [k]) es).map (· + 1)
def oD : Option Nat → PyData
  | none => .none
  | some n => .int n
theorem fault_some (wt : List Str) (k : Str) (es : List Ev) : faultAt wt (some k :: es) = (faultAt (if k ∈ wt then wt else wt ++ [k]) es).map (· + 1) := by cases wt <;> rfl
theorem play_some (wt : List Str) (k : Str) (es : List Ev) : play wt (some k :: es) = play (if k ∈ wt then wt else wt ++ [k]) es := by cases wt <;> rfl
theorem fault_far : ∀ (es : List Ev) (q : Qu) (n : Nat), faultAt (q.map (·.1)) es = if (playQ q n es).1.length + (playQ q n es).2.1.length < es.length then some ((playQ q n es).1.length + (playQ q n es).2.1.length) else none
  | [], q, n => by cases q <;> simp [playQ, faultAt]
  | some k :: es, q, n => by
    have h := fault_far es (putQ q k n) (n + 1)
    rw [putQ_keys] at h
    have e : playQ q n (some k :: es) = (k :: (playQ (putQ q k n) (n + 1) es).1, (playQ (putQ q k n) (n + 1) es).2.1, (playQ (putQ q k n) (n + 1) es).2.2) := by cases q <;> rfl
    rw [fault_some, h, e]
    simp only [List.length_cons]
    split
    · rw [if_pos (by omega)]
      simp only [Option.map_some]
      congr 1
      omega
    · rw [if_neg (by omega)]
      rfl
  | none :: es, [], n => by simp [playQ, faultAt]
  | none :: es, x :: q, n => by
    have h := fault_far es q n
    have e : playQ (x :: q) n (none :: es) = ((playQ q n es).1, x.2 :: (playQ q n es).2.1, (playQ q n es).2.2) := rfl
    have e2 : faultAt ((x :: q).map (·.1)) (none :: es) = (faultAt (q.map (·.1)) es).map (· + 1) := rfl
    rw [e2, h, e]
    simp only [List.length_cons]
    split
    · rw [if_pos (by omega)]
      simp only [Option.map_some]
      congr 1
    · rw [if_neg (by omega)]
      rfl
theorem fault_none : ∀ (es : List Ev) (wt : List Str), faultAt wt es = none ↔ (play wt es).isSome = true
  | [], wt => by cases wt <;> simp [faultAt, play]
  | some k :: es, wt => by
    rw [fault_some, play_some, Option.map_eq_none_iff]
    exact fault_none es _
  | none :: es, [] => by simp [faultAt, play]
  | none :: es, x :: wt => by
    show (faultAt wt es).map (· + 1) = none ↔ (play wt es).isSome = true
    rw [Option.map_eq_none_iff]
    exact fault_none es wt
theorem fault_take : ∀ (es : List Ev) (wt : List Str) (f : Nat), faultAt wt es = some f → (play wt (es.take f)).isSome = true ∧ (play wt (es.take (f + 1))).isSome = false ∧ f < es.length
  | [], wt, f, h => by cases wt <;> simp [faultAt] at h
  | some k :: es, wt, f, h => by
    rw [fault_some, Option.map_eq_some_iff] at h
    obtain ⟨g, hg, rfl⟩ := h
    have := fault_take es _ g hg
    rw [List.take_succ_cons, List.take_succ_cons, play_some, play_some, List.length_cons]
    exact ⟨this.1, this.2.1, by omega⟩
  | none :: es, [], f, h => by
    have : f = 0 := by simpa [faultAt] using h.symm
    subst this
    exact ⟨rfl, rfl, by simp⟩
  | none :: es, x :: wt, f, h => by
    have h : (faultAt wt es).map (· + 1) = some f := h
    rw [Option.map_eq_some_iff] at h
    obtain ⟨g, hg, rfl⟩ := h
    have := fault_take es wt g hg
    rw [List.take_succ_cons, List.take_succ_cons, List.length_cons]
    exact ⟨this.1, this.2.1, by omega⟩
def sp_first_fault : SpW := fun ws Q => ∃ w es, ws = [w] ∧ DL w (es.map evD) ∧ Good es ∧ es.length ≤ 50000 ∧ Q (.d (oD (faultAt [] es))) ws
theorem len_first_fault {ws : List W} {Q : W → List W → Prop} (h : sp_first_fault ws Q) : ws.length = 1 := by obtain ⟨_, _, rfl, _⟩ := h; rfl
theorem mono_first_fault : SpW.Mono sp_first_fault := fun ws Q Q' h ⟨w, ys, e, h1, h2, h3, q⟩ => ⟨w, ys, e, h1, h2, h3, h _ _ q⟩
theorem go_first_fault {w : W} {es : List Ev} {Q : W → List W → Prop} (h : DL w (es.map evD)) (h2 : Good es) (h3 : es.length ≤ 50000) (k : Q (.d (oD (faultAt [] es))) [w]) : sp_first_fault [w] Q := ⟨w, es, rfl, h, h2, h3, k⟩
/-- first_fault: slots 0 events 1 keys 2 shown 3 _ 4 at -/
abbrev r_first_fault_0a_0 : TSA := tNever
abbrev r_first_fault_3 : TSA := (tRet (tIf (tBl (tBin LtR (tVar 4) (tCB LenR (tCons (tVar 0) tNil)))) (tVar 4) (tK (.d .none))))
abbrev r_first_fault_2 : TSA := tSeq (tAsg (tBin AddR (tCB LenR (tCons (tVar 1) tNil)) (tCB LenR (tCons (tVar 2) tNil))) (gName 4)) r_first_fault_3
abbrev r_first_fault_1 : TSA := tSeq (tAsg (tCall Pk.sp_play (tCons (tLend (tVar 0)) tNil)) (gTup 3 (gCons (gName 1) (gCons (gName 2) (gCons (gName 3) gNil))))) r_first_fault_2
abbrev r_first_fault_0 : TSA := tSeq (tIfS (tNot (tBl (tCall Pk.sp_is_events (tCons (tLend (tVar 0)) tNil)))) r_first_fault_0a_0 tNext) r_first_fault_1

theorem rd_first_fault {ws : List W} {Q : W → List W → Prop} (h : sp_first_fault ws Q) : r_first_fault_0 (endsW [0] ws Q) (startW ["events", "keys", "shown", "_", "at"] ws) := by
  obtain ⟨w, es, rfl, hw, hg, hl, h⟩ := h
  have big := lineBig
  have sm := hg.small hl
  have ak : akB (firsts [] es) = true := akB_ok fun y hy => hg y ((firsts_mem es [] hy).resolve_left (by simp))
  have ff := fault_far es [] 0
  have l1 := playQ_len es [] 0
  show r_first_fault_0 _ [some w, none, none, none, none]
  cases hw with
  | d =>
    walk_at "go"
    refine go_is_events (.d _) sm ?_
    rw [ak]
    walk_at "go"
    refine go_play (.d _) (by omega) ?_
    unfold playD
    walk_at "go"
    refine g_ifD (fun b => ?_) (fun b => ?_)
    · walk_at "go"
      walk_at "end"
      have e : faultAt [] es = some ((playQ [] 0 es).1.length + (playQ [] 0 es).2.1.length) := ff.trans (if_pos (by omega))
      rw [e] at h
      exact h
    · walk_at "go"
      walk_at "end"
      have e : faultAt [] es = none := ff.trans (if_neg (by omega))
      rw [e] at h
      exact h
  | L =>
    walk_at "go"
    refine go_is_events (.L _) sm ?_
    rw [ak]
    walk_at "go"
    refine go_play (.L _) (by omega) ?_
    unfold playD
    walk_at "go"
    refine g_ifD (fun b => ?_) (fun b => ?_)
    · walk_at "go"
      walk_at "end"
      have e : faultAt [] es = some ((playQ [] 0 es).1.length + (playQ [] 0 es).2.1.length) := ff.trans (if_pos (by omega))
      rw [e] at h
      exact h
    · walk_at "go"
      walk_at "end"
      have e : faultAt [] es = none := ff.trans (if_neg (by omega))
      rw [e] at h
      exact h
end Pk

namespace Pq
open PySem PySem.Spec PyProof.Rows L2 Ab Lc Pk

local macro_rules | `(tactic| walk_at "sd") => `(tactic| first | assumption | omega | exact True.intro | decide | (simp only [List.length_map, List.length_append, List.length_cons, List.length_nil, List.length_range, List.length_replicate]; omega))
local macro_rules | `(tactic| walk_at "dl") => `(tactic| first | assumption | exact .d _ | exact .L _ | exact DL.n | (apply DL.c; walk_at "dl"))
local macro_rules | `(tactic| walk_at "rfys") => `(tactic| first | exact .nil | (apply Rfys.cons; (walk_at "rfy"); (walk_at "rfys")))
local macro_rules | `(tactic| walk_at "rfy") => `(tactic| first | exact .d _ | exact .L _ | assumption | (apply Rfy.lst; walk_at "rfys"))
local macro_rules | `(tactic| walk_at "at") => `(tactic| first | assumption | exact rfl | (apply atI_nat; first | assumption | exact rfl))
local macro_rules | `(tactic| walk_at "rel") => `(tactic| first
  | assumption
  | exact .int
  | exact .str
  | exact .mk
  | exact .bool
  | ((refine' MulR.int ?k1); (case k1 => (refine' cmulA ?k2 ?k3; (case k2 => walk_at "sd"); (case k3 => walk_at "sd"))))
  | ((refine' MulR.str ?k1); (case k1 => walk_at "sd"))
  | ((refine' mulL ?k1 ?k2 ?k3); (case k1 => walk_at "dl"); (case k2 => walk_at "sd"); (case k3 => walk_at "sd"))
  | ((refine' IxW.S ?k1 ?k2); (case k1 => first | walk_at "sd" | decide +kernel); (case k2 => walk_at "at"))
  | ((refine' IntR.mk ?k1); (case k1 => first | walk_at "sd" | (refine' cdivA ?k2 ?k3; (case k2 => walk_at "sd"); (case k3 => walk_at "sd")) | (refine' cpow3A ?k2; (case k2 => walk_at "sd"))))
  | ((refine' IxW.L ?k1 ?k2); (case k1 => walk_at "dl"); (case k2 => walk_at "at"))
  | ((refine' IxW.T ?k1 ?k2); (case k1 => exact .d _); (case k2 => walk_at "at"))
  | exact lenM
  | exact lenD
  | ((refine' LenR.L ?k1); (case k1 => walk_at "dl"))
  | ((refine' LenR.T ?k1); (case k1 => exact .d _))
  | ((refine' LenR.S ?k1); (case k1 => walk_at "sd"))
  | ((refine' ListR.L ?k1); (case k1 => walk_at "dl"))
  | ((refine' ListR.T ?k1); (case k1 => exact .d _))
  | ((refine' ListSR.mk ?k1); (case k1 => first | walk_at "sd" | decide +kernel))
  | ((refine' InR.strL ?k1); (case k1 => walk_at "dl"))
  | ((refine' AddR.str ?k1); (case k1 => walk_at "sd"))
  | ((refine' AddR.lst ?k1 ?k2 ?k3); (case k1 => walk_at "dl"); (case k2 => walk_at "dl"); (case k3 => walk_at "sd"))
  | ((refine' AppR.D ?k1); (case k1 => walk_at "sd"))
  | ((refine' AppR.G ?k1); (case k1 => walk_at "sd"))
  | ((refine' ExtR.mk ?k1); (case k1 => walk_at "sd"))
  | exact .mk True.intro
  | ((refine' InsR.mk ?k1 ?k2 ?k3); (case k1 => walk_at "sd"); (case k2 => walk_at "sd"); (case k3 => walk_at "sd"))
  | ((refine' IsiR.mk ?k1 ?k2); (case k1 => exact rfl); (case k2 => exact rfl))
  | ((refine' JoinXR.L ?k1 ?k2); (case k1 => walk_at "dl"); (case k2 => walk_at "sd"))
  | ((refine' StR0.mk ?k1); (case k1 => walk_at "sd"))
  | ((refine' JoinR.L ?k1 ?k2); (case k1 => walk_at "dl"); (case k2 => walk_at "sd"))
  | ((refine' DPopR.mk ?k1); (case k1 => walk_at "sd"))
  | ((refine' StrR.int ?k1); (case k1 => walk_at "sd")))
local macro_rules | `(tactic| walk_at "pu") => `(tactic| first | exact rfl | (apply puts_v; walk_at "pu") | (apply puts_fl; (walk_at "pu"); exact rfl))
local macro_rules | `(tactic| walk_at "ev") => `(tactic| dsimp only [List.set_cons_zero, List.set_cons_succ, List.set_nil, putW, putP, setsW, Nat.reduceAdd, Nat.zero_add, Int.reduceToNat, restW, wipeW, keepW, plainW, List.getElem?_cons_zero, List.getElem?_cons_succ, ↓reduceIte])
local macro_rules | `(tactic| walk_at "g1") => `(tactic| first
  | with_reducible refine' g_seq ?_
  | with_reducible refine' g_asg ?_
  | with_reducible refine' g_drop ?_
  | with_reducible refine' g_ret ?_
  | with_reducible refine' g_retN ?_
  | with_reducible refine' g_ifS ?_
  | with_reducible refine' g_next ?_
  | with_reducible refine' g_bin ?_
  | with_reducible refine' g_K ?_
  | ((with_reducible refine' g_varD ?h1 ?_); (case h1 => exact rfl))
  | ((with_reducible refine' g_varL ?h1 ?_); (case h1 => exact rfl))
  | ((with_reducible refine' g_varK ?h1 ?_); (case h1 => exact rfl))
  | ((with_reducible refine' g_varI ?h1 ?_); (case h1 => exact rfl))
  | ((with_reducible refine' g_varV ?h1 ?_); (case h1 => exact rfl))
  | ((with_reducible refine' g_binPow ?h1 ?h2 ?_); (case h1 => first | exact ⟨by decide, by decide⟩ | (refine' cpowA ?k2 ?k3; (case k2 => walk_at "sd"); (case k3 => decide))); (case h2 => first | ((dsimp only [Int.reduceToNat]); done) | ((dsimp only [Int.reduceToNat]); exact rfl)))
  | ((with_reducible refine' g_binV ?h1 ?_); (case h1 => walk_at "rel"))
  | ((with_reducible refine' g_binE ?h1 ?h2 ?h3 ?h4 ?h5 ?_); (case h1 => exact rfl); (case h2 => exact rfl); (case h3 => exact rfl); (case h4 => exact rfl); (case h5 => walk_at "rel"); try walk_at "ev")
  | with_reducible refine' g_bl ?_
  | with_reducible refine' g_blE ?_
  | with_reducible refine' g_and ?_
  | with_reducible refine' g_or ?_
  | with_reducible refine' g_not ?_
  | with_reducible refine' g_if ?_
  | with_reducible refine' g_andV ?_
  | with_reducible refine' g_orV ?_
  | with_reducible refine' g_notV ?_
  | with_reducible refine' g_boE ?_
  | with_reducible refine' g_ifInT ?_
  | with_reducible refine' g_ifInF ?_
  | with_reducible refine' g_ifN ?_
  | ((with_reducible refine' g_ifT ?h1 ?_); (case h1 => exact rfl))
  | ((with_reducible refine' g_ifF ?h1 ?_); (case h1 => exact rfl))
  | ((with_reducible refine' g_ifDT ?h1 ?_); (case h1 => first | assumption | omega))
  | ((with_reducible refine' g_ifDF ?h1 ?_); (case h1 => first | assumption | omega))
  | with_reducible refine' g_nil ?_
  | with_reducible refine' g_cons ?_
  | with_reducible refine' g_cb ?_
  | ((with_reducible refine' g_cbE ?h1 ?h2 ?h3 ?_); (case h1 => exact rfl); (case h2 => exact rfl); (case h3 => walk_at "rel"))
  | with_reducible refine' g_mut ?_
  | ((with_reducible refine' g_mutB ?h1 ?h2 ?_); (case h1 => exact rfl); (case h2 => exact rfl))
  | ((with_reducible refine' g_mutE0 ?h1 ?h2 ?h3 ?_); (case h1 => exact rfl); (case h2 => walk_at "rel"); (case h3 => exact rfl); try walk_at "ev")
  | ((with_reducible refine' g_mutE1 ?h1 ?h2 ?h3 ?_); (case h1 => exact rfl); (case h2 => walk_at "rel"); (case h3 => exact rfl); try walk_at "ev")
  | ((with_reducible refine' g_mutE2 ?h1 ?h2 ?h3 ?_); (case h1 => exact rfl); (case h2 => walk_at "rel"); (case h3 => exact rfl); try walk_at "ev")
  | with_reducible refine' g_neg ?_
  | with_reducible refine' g_negE ?_
  | with_reducible refine' g_lv ?_
  | ((with_reducible refine' g_lvE ?h1 ?h2 ?h3 ?_); (case h1 => exact rfl); (case h2 => exact rfl); (case h3 => walk_at "sd"))
  | with_reducible refine' g_rd ?_
  | ((with_reducible refine' g_rdB ?h1 ?h2 ?_); (case h1 => exact rfl); (case h2 => exact rfl))
  | ((with_reducible refine' g_rdE ?h1 ?h2 ?h3 ?_); (case h1 => exact rfl); (case h2 => exact rfl); (case h3 => walk_at "rel"))
  | with_reducible refine' g_own ?_
  | with_reducible refine' g_ownV ?_
  | with_reducible refine' g_frz ?_
  | with_reducible refine' g_frzD ?_
  | ((with_reducible refine' g_frzV ?h1 ?_); (case h1 => walk_at "rfy"))
  | ((with_reducible refine' g_frzS ?h1 ?h2 ?_); (case h1 => exact rfl); (case h2 => walk_at "rfy"); try walk_at "ev")
  | with_reducible refine' g_lend ?_
  | with_reducible refine' g_lendV ?_
  | with_reducible refine' g_lendF ?_
  | ((with_reducible refine' g_lendS ?h1 (fun _ => ?_)); (case h1 => exact rfl); try walk_at "ev")
  | with_reducible refine' g_late ?_
  | with_reducible refine' g_lateN ?_
  | with_reducible refine' g_lateV ?_
  | with_reducible refine' g_lateF ?_
  | ((with_reducible refine' g_lateS ?h1 (fun _ => ?_)); (case h1 => exact rfl); try walk_at "ev")
  | with_reducible refine' g_call ?_
  | ((with_reducible refine' g_callE ?h1 ?_); (case h1 => exact rfl); try dsimp only)
  | ((with_reducible refine' g_putE ?h1 ?h2 ?_); (case h1 => exact rfl); (case h2 => walk_at "pu"); try walk_at "ev")
  | with_reducible refine' g_lst ?_
  | ((with_reducible refine' g_lstE ?h1 ?h2 ?_); (case h1 => exact rfl); (case h2 => exact rfl))
  | with_reducible refine' g_tup ?_
  | ((with_reducible refine' g_tupE ?h1 ?h2 ?h3 ?_); (case h1 => exact rfl); (case h2 => walk_at "rfys"); (case h3 => exact rfl))
  | with_reducible refine' g_noPart ?_
  | with_reducible refine' g_part ?_
  | with_reducible refine' g_partE ?_
  | with_reducible refine' g_sl ?_
  | ((with_reducible refine' g_slE ?h1 ?h2 ?h3 ?_); (case h1 => exact rfl); (case h2 => exact rfl); (case h3 => walk_at "dl"))
  | with_reducible refine' g_dget ?_
  | ((with_reducible refine' g_dgetS ?h1 ?h2 ?h3 ?_); (case h1 => exact rfl); (case h2 => first | assumption | exact rfl); (case h3 => exact rfl))
  | ((with_reducible refine' g_dgetI ?h1 ?h2 ?h3 ?_); (case h1 => exact rfl); (case h2 => first | assumption | exact rfl); (case h3 => exact rfl))
  | with_reducible refine' g_din ?_
  | ((with_reducible refine' g_dinS ?h1 ?h2 ?_); (case h1 => exact rfl); (case h2 => exact rfl))
  | ((with_reducible refine' g_ninS ?h1 ?h2 ?_); (case h1 => exact rfl); (case h2 => exact rfl))
  | ((with_reducible refine' g_dinI ?h1 ?h2 ?_); (case h1 => exact rfl); (case h2 => exact rfl))
  | ((with_reducible refine' g_ninI ?h1 ?h2 ?_); (case h1 => exact rfl); (case h2 => exact rfl))
  | with_reducible refine' g_dg2 ?_
  | ((with_reducible refine' g_dg2E ?h1 ?_); (case h1 => exact rfl))
  | ((with_reducible refine' g_dg2S' ?h1 ?h2 ?h3 ?_); (case h1 => exact rfl); (case h2 => assumption); (case h3 => exact rfl))
  | ((with_reducible refine' g_dg2I' ?h1 ?h2 ?h3 ?_); (case h1 => exact rfl); (case h2 => assumption); (case h3 => exact rfl))
  | ((with_reducible refine' g_dg2S ?h1 ?h2 ?_); (case h1 => exact rfl); (case h2 => exact rfl))
  | ((with_reducible refine' g_dg2I ?h1 ?h2 ?_); (case h1 => exact rfl); (case h2 => exact rfl))
  | with_reducible refine' g_dg1 ?_
  | ((with_reducible refine' g_dg1E ?h1 ?_); (case h1 => exact rfl))
  | ((with_reducible refine' g_dg1S' ?h1 ?h2 ?h3 ?_); (case h1 => exact rfl); (case h2 => assumption); (case h3 => exact rfl))
  | ((with_reducible refine' g_dg1S ?h1 ?h2 ?_); (case h1 => exact rfl); (case h2 => exact rfl))
  | ((with_reducible refine' g_dg1I ?h1 ?h2 ?_); (case h1 => exact rfl); (case h2 => exact rfl))
  | with_reducible refine' g_ch ?_
  | ((with_reducible refine' g_chE ?h1 ?_); (case h1 => walk_at "rel"))
  | ((with_reducible refine' g_chF ?h1 ?_); (case h1 => walk_at "rel"))
  | with_reducible refine' g_tru ?_
  | ((with_reducible refine' g_truE ?h1 ?h2 ?h3 ?_); (case h1 => exact rfl); (case h2 => exact rfl); (case h3 => constructor))
  | with_reducible refine' g_dropV ?_
  | ((with_reducible refine' g_dropE ?h1 ?_); (case h1 => exact rfl); try walk_at "ev")
  | with_reducible refine' g_asgV ?_
  | ((with_reducible refine' g_name ?h1 ?h2 ?_); (case h1 => exact rfl); (case h2 => first | ((walk_at "ev"); exact rfl) | ((walk_at "ev"); done) | exact rfl))
  | ((with_reducible refine' g_gtup ?h1 ?_); (case h1 => exact rfl))
  | with_reducible refine' g_gnil ?_
  | with_reducible refine' g_gcons ?_
  | with_reducible refine' g_gix ?_
  | ((with_reducible refine' g_gixE ?h1 ?h2 ?_); (case h1 => exact rfl); (case h2 => first | assumption | exact rfl); try walk_at "ev")
  | with_reducible refine' g_dput ?_
  | ((with_reducible refine' g_dputS ?h1 ?h2 ?h3 ?_); (case h1 => exact rfl); (case h2 => walk_at "sd"); (case h3 => exact rfl); try walk_at "ev")
  | ((with_reducible refine' g_dputI ?h1 ?h2 ?h3 ?_); (case h1 => exact rfl); (case h2 => walk_at "sd"); (case h3 => exact rfl); try walk_at "ev")
  | ((with_reducible refine' g_aug ?h1 ?_); (case h1 => exact rfl))
  | ((with_reducible refine' g_augE ?h1 ?h2 ?h3 ?h4 ?h5 ?_); (case h1 => exact rfl); (case h2 => exact rfl); (case h3 => walk_at "rel"); (case h4 => exact rfl); (case h5 => first | ((walk_at "ev"); exact rfl) | ((walk_at "ev"); done) | exact rfl))
  | with_reducible refine' g_par ?_
  | ((with_reducible refine' g_parE ?h1 ?h2 ?h3 ?h4 ?_); (case h1 => exact rfl); (case h2 => exact rfl); (case h3 => exact rfl); (case h4 => first | ((walk_at "ev"); exact rfl) | ((walk_at "ev"); done) | exact rfl))
  | with_reducible refine' g_iR1 ?_
  | ((with_reducible refine' g_r1E ?h1 ?_); (case h1 => walk_at "sd"))
  | with_reducible refine' g_iR2 ?_
  | ((with_reducible refine' g_r2E ?h1 ?_); (case h1 => walk_at "sd"))
  | with_reducible refine' g_iL ?_
  | ((with_reducible refine' g_iLE ?h1 ?h2 ?_); (case h1 => exact rfl); (case h2 => walk_at "dl"))
  | with_reducible refine' g_iT ?_
  | ((with_reducible refine' g_iTE ?h1 ?h2 ?_); (case h1 => exact rfl); (case h2 => exact .d _))
  | with_reducible refine' g_iS ?_
  | with_reducible refine' g_iSE ?_
  | with_reducible refine' g_iE ?_
  | ((with_reducible refine' g_iEE ?h1 ?h2 ?_); (case h1 => exact rfl); (case h2 => walk_at "dl"))
  | with_reducible refine' g_for ?_
  | with_reducible refine' g_comp ?_
  | with_reducible refine' g_yes ?_
  | ((with_reducible refine' g_accV ?h1 ?_); (case h1 => walk_at "sd"))
  | with_reducible refine' g_nxS ?_
  | with_reducible refine' g_nxF ?_
  | with_reducible refine' g_nxW ?_
  | with_reducible refine' g_rtS ?_
  | with_reducible refine' g_rtF ?_
  | with_reducible refine' g_rtW ?_
  | ((with_reducible refine' g_ownE ?h1 ?_); (case h1 => exact .mv rfl); try walk_at "ev")
  | with_reducible refine' g_bk ?_
  | with_reducible refine' g_ct ?_
  | with_reducible refine' g_bkS ?_
  | with_reducible refine' g_bkF ?_
  | with_reducible refine' g_bkW ?_
  | with_reducible refine' g_nxK ?_
  | with_reducible refine' g_ctK ?_
  | ((with_reducible refine' g_rtK ?h1 ?_); (case h1 => (simp only [List.length_cons, List.length_nil, List.length_set]; omega)); try walk_at "ev")
  | ((with_reducible refine' g_bkK ?h1 ?_); (case h1 => (simp only [List.length_cons, List.length_nil, List.length_set]; omega)); try walk_at "ev")
  | with_reducible refine' g_ctS ?_
  | with_reducible refine' g_ctF ?_
  | with_reducible refine' g_ctW ?_)
local macro_rules | `(tactic| walk_at "go") => `(tactic| repeat walk_at "g1")
local macro_rules | `(tactic| walk_at "end") => `(tactic| first
  | ((with_reducible refine' g_end ?h1 ?h2 ?h3 ?_); (case h1 => first | exact .v _ _ | exact .mv rfl); (case h2 => exact rfl); (case h3 => exact rfl))
  | ((with_reducible refine' g_endN ?h2 ?h3 ?_); (case h2 => exact rfl); (case h3 => exact rfl)))
local macro_rules | `(tactic| walk_at "g1") => `(tactic| first
  | with_reducible refine' g_tpo ?_
  | with_reducible refine' g_tpo3 ?_
  | with_reducible refine' g_tpo2 ?_
  | with_reducible refine' g_ixo ?_
  | ((with_reducible refine' g_ixoE ?h1 ?_); (case h1 => exact rfl))
  | with_reducible refine' g_lix ?_
  | ((with_reducible refine' g_lixE ?h1 ?h2 ?h3 ?_); (case h1 => exact rfl); (case h2 => exact rfl); (case h3 => exact rfl); try walk_at "ev")
  | with_reducible refine' g_unp ?_
  | ((with_reducible refine' g_unpE ?h1 ?h2 ?h3 ?_); (case h1 => exact .v _ _); (case h2 => exact rfl); (case h3 => simp); try walk_at "ev")
  | ((with_reducible refine' g_varT ?h1 ?_); (case h1 => exact rfl)))
local macro_rules | `(tactic| walk_at "rel") => `(tactic| first
  | exact IsNTR.t
  | exact IsNTR.d
  | ((refine' CountR.S ?k1); (case k1 => walk_at "dl")))
/-! ## play, played, checked_run, with a result of their own -/
def playW (r : List Str × List Nat × Qu) : W := .tup [kW r.1, iW r.2.1, iW (r.2.2.map (·.2))]
def sp_play : SpW := fun ws Q => ∃ w, ∃ es : List Ev, ws = [w] ∧ DL w (es.map evD) ∧ es.length ≤ 100000 ∧ Q (playW (playQ [] 0 es)) ws
theorem len_play {ws : List W} {Q : W → List W → Prop} (h : sp_play ws Q) : ws.length = 1 := by obtain ⟨_, _, rfl, _⟩ := h; rfl
theorem mono_play : SpW.Mono sp_play := fun ws Q Q' h ⟨w, es, e, h0, h1, q⟩ => ⟨w, es, e, h0, h1, h _ _ q⟩
theorem go_play {w : W} {es : List Ev} {Q : W → List W → Prop} (h : DL w (es.map evD)) (h1 : es.length ≤ 100000) (k : Q (playW (playQ [] 0 es)) [w]) : sp_play [w] Q := ⟨w, es, rfl, h, h1, k⟩
/-- play: slots 0 events 1 keys 2 shown 3 entered 4 waiting 5 event 6 key -/
abbrev r_play_4c_0a_1a_0 : TSA := (tDrop (tMut "list" AppR (tVar 3) (tCons (tOwn (tVar 6)) tNil)))
abbrev r_play_4c_0a_3 : TSA := (tDrop (tMut "list" AppR (tVar 1) (tCons (tOwn (tVar 6)) tNil)))
abbrev r_play_4c_0a_2 : TSA := tSeq (tDput (tVar 4) (tVar 6) (tCB LenR (tCons (tVar 1) tNil))) r_play_4c_0a_3
abbrev r_play_4c_0a_1 : TSA := tSeq (tIfS (tBl (tDin true (tVar 6) (tVar 4))) r_play_4c_0a_1a_0 tNext) r_play_4c_0a_2
abbrev r_play_4c_0a_0 : TSA := tSeq (tAsg (tBin IxW (tVar 5) (tK (.d (.int 1)))) (gName 6)) r_play_4c_0a_1
abbrev r_play_4c_0b_0a_0 : TSA := (tDrop (tMut "list" AppR (tVar 2) (tCons (tOwn (tMut "dict" DPopR (tVar 4) (tCons (tOwn (tBin IxW (tVar 3) (tCB LenR (tCons (tVar 2) tNil)))) tNil))) tNil)))
abbrev r_play_4c_0b_0b_0 : TSA := tBreak
abbrev r_play_4c_0b_0 : TSA := (tIfS (tTru (tVar 4)) r_play_4c_0b_0a_0 r_play_4c_0b_0b_0)
def r_play_4c_0 : TSA := (tIfS (tBl (tBin EqR (tCB LenR (tCons (tVar 5) tNil)) (tK (.d (.int 2))))) r_play_4c_0a_0 r_play_4c_0b_0)
def r_play_5 : TSA := (tRet (tTupO (tCons (tOwn (tVar 1)) (tCons (tOwn (tVar 2)) (tCons (tOwn (tLVals (tVar 4))) tNil)))))
abbrev r_play_4 : TSA := tSeq (tFor [0] (iL (tVar 0)) (gName 5) r_play_4c_0) r_play_5
abbrev r_play_3 : TSA := tSeq (tAsg (tK (WD [])) (gName 4)) r_play_4
abbrev r_play_2 : TSA := tSeq (tAsg (tLst tNil) (gName 3)) r_play_3
abbrev r_play_1 : TSA := tSeq (tAsg (tLst tNil) (gName 2)) r_play_2
abbrev r_play_0 : TSA := tSeq (tAsg (tLst tNil) (gName 1)) r_play_1

theorem rd_play {ws : List W} {Q : W → List W → Prop} (h : sp_play ws Q) : r_play_0 (endsW [0] ws Q) (startW ["events", "keys", "shown", "entered", "waiting", "event", "key"] ws) := by
  obtain ⟨w, es, rfl, hw, hl, h⟩ := h
  have big := lineBig
  show r_play_0 _ [some w, none, none, none, none, none, none]
  have fin : ∀ (ks : List Str) (sh : List Nat) (en : List Str) (q : Qu) (x5 x6 : Option W), q.length ≤ 100000 → playQ [] 0 es = (ks, sh, q) → r_play_5 (endsW [0] [w] Q) [some w, some (kW ks), some (iW sh), some (kW en), some (WD (qD q)), x5, x6] := by
    intro ks sh en q x5 x6 hq e
    have e2 : (qD q).map (·.2) = (q.map (·.2)).map natD := by
      unfold qD
      rw [List.map_map, List.map_map]
      rfl
    have e3 : (qD q).length = q.length := by simp [qD]
    unfold r_play_5
    walk_at "go"
    rw [e] at h
    cases hw
    · walk_at "end"
      rw [e2]
      exact h
    · walk_at "end"
      rw [e2]
      exact h
  have turn : ∀ {D : EndsA} (i : Nat) (e : Ev) (ks : List Str) (sh : List Nat) (en : List Str) (q : Qu) (x5 x6 : Option W), es[i]? = some e →
      (let r := playQ q ks.length (es.drop i); playQ [] 0 es = (ks ++ r.1, sh ++ r.2.1, r.2.2)) ∧ en.drop sh.length = q.map (·.1) ∧ (q.map (·.1)).Nodup ∧ ks.length ≤ i ∧ sh.length ≤ i ∧ en.length ≤ i ∧ q.length ≤ i ∧ sh.length ≤ en.length →
      (∀ (ks : List Str) (sh : List Nat) (en : List Str) (q : Qu) (x5 x6 : Option W), (let r := playQ q ks.length (es.drop (i + 1)); playQ [] 0 es = (ks ++ r.1, sh ++ r.2.1, r.2.2)) ∧ en.drop sh.length = q.map (·.1) ∧ (q.map (·.1)).Nodup ∧ ks.length ≤ i + 1 ∧ sh.length ≤ i + 1 ∧ en.length ≤ i + 1 ∧ q.length ≤ i + 1 ∧ sh.length ≤ en.length →
        NxE D [some w, some (kW ks), some (iW sh), some (kW en), some (WD (qD q)), x5, x6]) →
      (∀ x5 x6, playQ [] 0 es = (ks, sh, []) → BkE D [some w, some (kW ks), some (iW sh), some (kW en), some (WD (qD [])), x5, x6]) →
      r_play_4c_0 D [some w, some (kW ks), some (iW sh), some (kW en), some (WD (qD q)), some (.d (evD e)), x6] := by
    rintro D i e ks sh en q x5 x6 he ⟨hp, hen, hnd, l1, l2, l3, l4, l5⟩ nx bk
    have hi : i < es.length := (List.getElem?_eq_some_iff.mp he).1
    have hdr : es.drop i = e :: es.drop (i + 1) := by
      rw [List.drop_eq_getElem_cons hi]
      congr 1
      exact (List.getElem?_eq_some_iff.mp he).2
    have e3 : (qD q).length = q.length := by simp [qD]
    rw [hdr] at hp
    unfold r_play_4c_0
    cases e with
    | none =>
      cases q with
      | nil =>
        walk_at "go"
        refine bk _ _ ?_
        simpa [playQ] using hp
      | cons x q =>
        have hx : en[sh.length]? = some x.1 := by
          have := congrArg (fun l => l[0]?) hen
          simpa using this
        have hat : atI (en.map PyData.str) (sh.length : Int) = some (.str x.1) := atI_nat (by rw [List.getElem?_map, hx]; rfl)
        have hpop : DPopR (WD (qD (x :: q))) [.d (.str x.1)] (WD (qD q)) (.d (natD x.2)) := by
          have := DPopR.mk (ds := qD (x :: q)) (k := Sum.inr x.1) (d := natD x.2) (by show valD ((Sum.inr x.1, natD x.2) :: qD q) _ = _; rw [valD_cons, if_pos rfl])
          rwa [qD_drop hnd] at this
        have happ : AppR (iW sh) [.d (natD x.2)] (iW (sh ++ [x.2])) (.d .none) := by
          have := AppR.D (ds := sh.map natD) (d := natD x.2) (by rw [List.length_map]; omega)
          rwa [show sh.map natD ++ [natD x.2] = (sh ++ [x.2]).map natD by simp] at this
        walk_at "go"
        rw [List.map_cons, List.nodup_cons] at hnd
        simp only [List.length_cons] at l4
        refine nx ks (sh ++ [x.2]) en q _ _ ⟨?_, ?_, hnd.2, by omega, by simp; omega, by omega, by omega, by have := (List.getElem?_eq_some_iff.mp hx).1; simp; omega⟩
        · simpa [playQ] using hp
        · rw [List.length_append, List.length_singleton, ← List.drop_drop, hen]
          rfl
    | some k =>
      have hv := qD_val q k
      have hput := qD_put q k ks.length
      have hpk := putQ_keys q k ks.length
      have happ := appS (xs := ks) (x := k) (by omega)
      have hape := appS (xs := en) (x := k) (by omega)
      have hdl : (qD q).length < sizeLine := by omega
      have hql : (putQ q k ks.length).length = ((putQ q k ks.length).map (·.1)).length := by rw [List.length_map]
      walk_at "go"
      rw [hv]
      refine g_ifD (fun hin => ?_) (fun hin => ?_)
      · walk_at "go"
        rw [if_pos hin] at hpk
        have hh : putD (qD q) (Sum.inr k : Key) (natD ks.length) = qD (putQ q k ks.length) := hput
        show NxE D [some w, _, _, _, some (WD (putD (qD q) (Sum.inr k : Key) (natD ks.length))), _, _]
        rw [hh]
        refine nx (ks ++ [k]) sh en (putQ q k ks.length) _ _ ⟨?_, by rw [hpk]; exact hen, by rw [hpk]; exact hnd, by simp; omega, by omega, by omega, by rw [hql, hpk, List.length_map]; omega, l5⟩
        simpa [playQ] using hp
      · walk_at "go"
        rw [if_neg hin] at hpk
        show NxE D [some w, _, _, _, some (WD (putD (qD q) (Sum.inr k : Key) (natD ks.length))), _, _]
        rw [hput]
        refine nx (ks ++ [k]) sh (en ++ [k]) (putQ q k ks.length) _ _ ⟨?_, by rw [hpk, List.drop_append_of_le_length l5, hen], ?_, by simp; omega, by omega, by simp; omega, by rw [hql, hpk]; simp; omega, by simp; omega⟩
        · simpa [playQ] using hp
        · rw [hpk]
          refine List.nodup_append.mpr ⟨hnd, by simp, fun a ha b hb e => ?_⟩
          simp at hb
          rw [e, hb] at ha
          exact hin ha
  have z0 : (let r := playQ [] ([] : List Str).length (es.drop 0); playQ [] 0 es = ([] ++ r.1, [] ++ r.2.1, r.2.2)) ∧ ([] : List Str).drop ([] : List Nat).length = ([] : Qu).map (·.1) ∧ (([] : Qu).map (·.1)).Nodup ∧ ([] : List Str).length ≤ 0 ∧ ([] : List Nat).length ≤ 0 ∧ ([] : List Str).length ≤ 0 ∧ ([] : Qu).length ≤ 0 ∧ ([] : List Nat).length ≤ ([] : List Str).length :=
    ⟨by simp, rfl, .nil, by simp, by simp, by simp, by simp, by simp⟩
  cases hw with
  | d =>
    walk_at "go"
    refine g_forV (fun i ε => ∃ (ks : List Str) (sh : List Nat) (en : List Str) (q : Qu) (x5 x6 : Option W), ε = [some (.d (.list (es.map evD))), some (kW ks), some (iW sh), some (kW en), some (WD (qD q)), x5, x6] ∧
        (let r := playQ q ks.length (es.drop i); playQ [] 0 es = (ks ++ r.1, sh ++ r.2.1, r.2.2)) ∧ en.drop sh.length = q.map (·.1) ∧ (q.map (·.1)).Nodup ∧ ks.length ≤ i ∧ sh.length ≤ i ∧ en.length ≤ i ∧ q.length ≤ i ∧ sh.length ≤ en.length)
      ⟨[], [], [], [], _, _, rfl, z0⟩ ?_ ?_
    · rintro i d ε hd ⟨ks, sh, en, q, x5, x6, rfl, hp⟩
      rw [List.getElem?_map] at hd
      obtain ⟨e, he, rfl⟩ := Option.map_eq_some_iff.mp hd
      walk_at "go"
      refine turn i e ks sh en q x5 _ he hp (fun ks sh en q x5 x6 hp => ?_) fun x5 x6 hp => ?_
      · walk_at "go"
        exact ⟨ks, sh, en, q, x5, x6, rfl, hp⟩
      · walk_at "go"
        exact fin ks sh en [] _ _ (by simp) hp
    · rintro ε ⟨ks, sh, en, q, x5, x6, rfl, hp, hen, hnd, l1, l2, l3, l4, l5⟩
      rw [List.length_map] at hp l4
      walk_at "go"
      refine fin ks sh en q _ _ (by omega) ?_
      simpa [playQ] using hp
  | L =>
    walk_at "go"
    refine g_forS (fun i ε => ∃ (ks : List Str) (sh : List Nat) (en : List Str) (q : Qu) (x5 x6 : Option W), ε = [some (eW es), some (kW ks), some (iW sh), some (kW en), some (WD (qD q)), x5, x6] ∧
        (let r := playQ q ks.length (es.drop i); playQ [] 0 es = (ks ++ r.1, sh ++ r.2.1, r.2.2)) ∧ en.drop sh.length = q.map (·.1) ∧ (q.map (·.1)).Nodup ∧ ks.length ≤ i ∧ sh.length ≤ i ∧ en.length ≤ i ∧ q.length ≤ i ∧ sh.length ≤ en.length)
      (by decide) rfl ⟨[], [], [], [], _, _, rfl, z0⟩ (by rintro j ε ⟨_, _, _, _, _, _, rfl, _⟩; rfl) ?_ ?_
    · rintro i d ε hd ⟨ks, sh, en, q, x5, x6, rfl, hp⟩
      rw [List.getElem?_map] at hd
      obtain ⟨e, he, rfl⟩ := Option.map_eq_some_iff.mp hd
      walk_at "go"
      refine turn i e ks sh en q x5 _ he hp (fun ks sh en q x5 x6 hp => ?_) fun x5 x6 hp => ?_
      · walk_at "go"
        exact ⟨ks, sh, en, q, x5, x6, rfl, hp⟩
      · walk_at "go"
        exact fin ks sh en [] _ _ (by simp) hp
    · rintro ε ⟨ks, sh, en, q, x5, x6, rfl, hp, hen, hnd, l1, l2, l3, l4, l5⟩
      rw [List.length_map] at hp l4
      walk_at "go"
      refine fin ks sh en q _ _ (by omega) ?_
      simpa [playQ] using hp
/-! ## played, checked_run -/
def plW (es : List Ev) : W := if runB es = true then playW (playQ [] 0 es) else .d .none
def sp_played : SpW := fun ws Q => ∃ w es, ws = [w] ∧ DL w (es.map evD) ∧ Small es ∧ Q (plW es) ws
theorem len_played {ws : List W} {Q : W → List W → Prop} (h : sp_played ws Q) : ws.length = 1 := by obtain ⟨_, _, rfl, _⟩ := h; rfl
theorem mono_played : SpW.Mono sp_played := fun ws Q Q' h ⟨w, ys, e, h1, h2, q⟩ => ⟨w, ys, e, h1, h2, h _ _ q⟩
theorem go_played {w : W} {es : List Ev} {Q : W → List W → Prop} (h : DL w (es.map evD)) (h2 : Small es) (k : Q (plW es) [w]) : sp_played [w] Q := ⟨w, es, rfl, h, h2, k⟩
/-- played: slots 0 value 1 found -/
abbrev r_played_0a_0 : TSA := (tRet (tK (.d .none)))
abbrev r_played_2 : TSA := (tRet (tIf (tBl (tBin EqR (tBin AddR (tLenIx 0 (tVar 1)) (tLenIx 1 (tVar 1))) (tCB LenR (tCons (tVar 0) tNil)))) (tVar 1) (tK (.d .none))))
abbrev r_played_1 : TSA := tSeq (tAsg (tCall Pq.sp_play (tCons (tLend (tVar 0)) tNil)) (gName 1)) r_played_2
abbrev r_played_0 : TSA := tSeq (tIfS (tNot (tBl (tCall Pk.sp_is_events (tCons (tLend (tVar 0)) tNil)))) r_played_0a_0 tNext) r_played_1
theorem rd_played {ws : List W} {Q : W → List W → Prop} (h : sp_played ws Q) : r_played_0 (endsW [0] ws Q) (startW ["value", "found"] ws) := by
  obtain ⟨w, es, rfl, hw, sm, h⟩ := h
  have big := lineBig
  have hl := sm.1
  have l1 := playQ_len es [] 0
  show r_played_0 _ [some w, none]
  have e1 : akB (firsts [] es) = true → farQ es = es.length → plW es = playW (playQ [] 0 es) := fun a b => by
    unfold plW runB
    rw [if_pos]
    rw [a, decide_eq_true b]
    rfl
  have e2 : farQ es ≠ es.length → plW es = .d .none := fun b => by
    unfold plW runB
    rw [if_neg]
    rw [decide_eq_false b]
    simp
  have e3 : akB (firsts [] es) = false → plW es = .d .none := fun a => by
    unfold plW runB
    rw [if_neg]
    rw [a]
    simp
  cases hw with
  | d =>
    walk_at "go"
    refine go_is_events (.d _) sm ?_
    walk_at "go"
    refine ifB (fun a => ?_) (fun a => ?_)
    · walk_at "go"
      refine go_play (.d _) (by omega) ?_
      unfold playW
      walk_at "go"
      refine g_ifD (fun b => ?_) (fun b => ?_)
      · simp only [List.length_map] at b
        walk_at "go"
        walk_at "end"
        rw [e1 a (by unfold farQ; omega)] at h
        exact h
      · simp only [List.length_map] at b
        walk_at "go"
        walk_at "end"
        rw [e2 (by unfold farQ; omega)] at h
        exact h
    · walk_at "go"
      walk_at "end"
      rw [e3 a] at h
      exact h
  | L =>
    walk_at "go"
    refine go_is_events (.L _) sm ?_
    walk_at "go"
    refine ifB (fun a => ?_) (fun a => ?_)
    · walk_at "go"
      refine go_play (.L _) (by omega) ?_
      unfold playW
      walk_at "go"
      refine g_ifD (fun b => ?_) (fun b => ?_)
      · simp only [List.length_map] at b
        walk_at "go"
        walk_at "end"
        rw [e1 a (by unfold farQ; omega)] at h
        exact h
      · simp only [List.length_map] at b
        walk_at "go"
        walk_at "end"
        rw [e2 (by unfold farQ; omega)] at h
        exact h
    · walk_at "go"
      walk_at "end"
      rw [e3 a] at h
      exact h

def sp_checked_run : SpW := fun ws Q => ∃ w es, ws = [w] ∧ DL w (es.map evD) ∧ Small es ∧ runB es = true ∧ Q (playW (playQ [] 0 es)) ws
theorem len_checked_run {ws : List W} {Q : W → List W → Prop} (h : sp_checked_run ws Q) : ws.length = 1 := by obtain ⟨_, _, rfl, _⟩ := h; rfl
theorem mono_checked_run : SpW.Mono sp_checked_run := fun ws Q Q' h ⟨w, ys, e, h1, h2, h3, q⟩ => ⟨w, ys, e, h1, h2, h3, h _ _ q⟩
theorem go_checked_run {w : W} {es : List Ev} {Q : W → List W → Prop} (h : DL w (es.map evD)) (h2 : Small es) (h3 : runB es = true) (k : Q (playW (playQ [] 0 es)) [w]) : sp_checked_run [w] Q := ⟨w, es, rfl, h, h2, h3, k⟩
/-- checked_run: slots 0 value 1 found -/
abbrev r_checked_run_1a_0 : TSA := tNever
abbrev r_checked_run_2 : TSA := (tRet (tVar 1))
abbrev r_checked_run_1 : TSA := tSeq (tIfS (tBl (tBin IsNTR (tVar 1) (tK (.d .none)))) r_checked_run_1a_0 tNext) r_checked_run_2
abbrev r_checked_run_0 : TSA := tSeq (tAsg (tCall Pq.sp_played (tCons (tLend (tVar 0)) tNil)) (gName 1)) r_checked_run_1
theorem rd_checked_run {ws : List W} {Q : W → List W → Prop} (h : sp_checked_run ws Q) : r_checked_run_0 (endsW [0] ws Q) (startW ["value", "found"] ws) := by
  obtain ⟨w, es, rfl, hw, sm, hr, h⟩ := h
  have big := lineBig
  show r_checked_run_0 _ [some w, none]
  have e1 : plW es = playW (playQ [] 0 es) := by
    unfold plW
    rw [if_pos hr]
  cases hw with
  | d =>
    walk_at "go"
    refine go_played (.d _) sm ?_
    rw [e1]
    unfold playW at *
    walk_at "go"
    walk_at "end"
    exact h
  | L =>
    walk_at "go"
    refine go_played (.L _) sm ?_
    rw [e1]
    unfold playW at *
    walk_at "go"
    walk_at "end"
    exact h
/-! ## counted_writes -/
/-- a write with its count: the one with this number in a row of keys -/
def ctAt (ks : List Str) (i : Nat) : Str × Int := (ks.getD i "", ((ks.take (i + 1)).count (ks.getD i "") : Nat))
def sp_counted_writes : SpW := fun ws Q => ∃ ks : List Str, ws = [kW ks] ∧ ks.length ≤ 50000 ∧ Q (cW ((List.range ks.length).map (ctAt ks))) ws
theorem len_counted_writes {ws : List W} {Q : W → List W → Prop} (h : sp_counted_writes ws Q) : ws.length = 1 := by obtain ⟨_, rfl, _⟩ := h; rfl
theorem mono_counted_writes : SpW.Mono sp_counted_writes := fun ws Q Q' h ⟨w, e, h1, q⟩ => ⟨w, e, h1, h _ _ q⟩
theorem go_counted_writes {ks : List Str} {Q : W → List W → Prop} (h : ks.length ≤ 50000) (k : Q (cW ((List.range ks.length).map (ctAt ks))) [kW ks]) : sp_counted_writes [kW ks] Q := ⟨ks, rfl, h, k⟩
/-- counted_writes: slots 0 keys 1 counts 2 writes 3 key -/
abbrev r_counted_writes_2c_1 : TSA := (tDrop (tMut "list" AppR (tVar 2) (tCons (tOwn (tTup (tCons (tOwn (tVar 3)) (tCons (tOwn (tDget (tVar 1) (tVar 3))) tNil)))) tNil)))
abbrev r_counted_writes_2c_0 : TSA := tSeq (tDput (tVar 1) (tVar 3) (tBin AddR (tDget2 (tVar 1) (tVar 3) (tK (.d (.int 0)))) (tK (.d (.int 1))))) r_counted_writes_2c_1
abbrev r_counted_writes_3 : TSA := (tRet (tVar 2))
abbrev r_counted_writes_2 : TSA := tSeq (tFor [0] (iL (tVar 0)) (gName 3) r_counted_writes_2c_0) r_counted_writes_3
abbrev r_counted_writes_1 : TSA := tSeq (tAsg (tLst tNil) (gName 2)) r_counted_writes_2
abbrev r_counted_writes_0 : TSA := tSeq (tAsg (tK (WD [])) (gName 1)) r_counted_writes_1
theorem rd_counted_writes {ws : List W} {Q : W → List W → Prop} (h : sp_counted_writes ws Q) : r_counted_writes_0 (endsW [0] ws Q) (startW ["keys", "counts", "writes", "key"] ws) := by
  obtain ⟨ks, rfl, hl, h⟩ := h
  have big := lineBig
  show r_counted_writes_0 _ [some (kW ks), none, none, none]
  walk_at "go"
  refine g_forS (fun i ε => ∃ (ds : List (Key × PyData)) (x3 : Option W), ε = [some (kW ks), some (WD ds), some (cW ((List.range i).map (ctAt ks))), x3] ∧ ds.length ≤ i ∧ ∀ k : Str, (valD ds (Sum.inr k : Key)).getD (.int 0) = .int ((ks.take i).count k : Nat)) (by decide) rfl ⟨[], none, rfl, Nat.le_refl _, fun k => by simp [valD]⟩ (by rintro j ε ⟨_, _, rfl, _⟩; rfl) ?_ ?_
  · rintro i d ε hd ⟨ds, x3, rfl, dl, hv⟩
    rw [List.getElem?_map] at hd
    obtain ⟨x, hx, rfl⟩ := Option.map_eq_some_iff.mp hd
    have hi : i < ks.length := (List.getElem?_eq_some_iff.mp hx).1
    have hvx := hv x
    have ph := put_has (ds := ds) (k := (Sum.inr x : Key)) (d := .int (((ks.take i).count x : Nat) + 1))
    have hdl : ds.length < sizeLine := by omega
    have gx : ks.getD i "" = x := by rw [List.getD_eq_getElem?_getD, hx]; rfl
    have tk : ks.take (i + 1) = ks.take i ++ [x] := by rw [List.take_succ, hx]; rfl
    have ec : ctAt ks i = (x, (((ks.take i).count x : Nat) : Int) + 1) := by
      unfold ctAt
      rw [gx, tk, List.count_append, List.count_singleton_self]
      simp
    have app := appC (cs := (List.range i).map (ctAt ks)) (p := ctAt ks i) (by rw [List.length_map, List.length_range]; omega)
    rw [ec] at app
    walk_at "go"
    refine ⟨_, _, by rw [List.range_succ, List.map_append, List.map_singleton, ec], Nat.le_trans (putD_len _ _ _) (by omega), fun k => ?_⟩
    rw [putD_get, tk, List.count_append]
    by_cases e : k = x
    · subst e
      rw [if_pos rfl, List.count_singleton_self]
      simp
    · rw [if_neg (fun z => e (Sum.inr.inj z)), hv k, List.count_singleton, if_neg (by simpa using Ne.symm e)]
      simp
  · rintro ε ⟨ds, x3, rfl, dl, hv⟩
    rw [List.length_map] at *
    walk_at "go"
    walk_at "end"
    exact h
/-! ## writes_of, shown_by -/
def sp_writes_of : SpW := fun ws Q => ∃ w es, ws = [w] ∧ DL w (es.map evD) ∧ Small es ∧ runB es = true ∧ Q (kW (playQ [] 0 es).1) ws
theorem len_writes_of {ws : List W} {Q : W → List W → Prop} (h : sp_writes_of ws Q) : ws.length = 1 := by obtain ⟨_, _, rfl, _⟩ := h; rfl
theorem mono_writes_of : SpW.Mono sp_writes_of := fun ws Q Q' h ⟨w, ys, e, h1, h2, h3, q⟩ => ⟨w, ys, e, h1, h2, h3, h _ _ q⟩
theorem go_writes_of {w : W} {es : List Ev} {Q : W → List W → Prop} (h : DL w (es.map evD)) (h2 : Small es) (h3 : runB es = true) (k : Q (kW (playQ [] 0 es).1) [w]) : sp_writes_of [w] Q := ⟨w, es, rfl, h, h2, h3, k⟩
/-- writes_of: slots 0 run -/
abbrev r_writes_of_0 : TSA := (tRet (tIxO 0 (tCall Pq.sp_checked_run (tCons (tLend (tVar 0)) tNil))))
theorem rd_writes_of {ws : List W} {Q : W → List W → Prop} (h : sp_writes_of ws Q) : r_writes_of_0 (endsW [0] ws Q) (startW ["run"] ws) := by
  obtain ⟨w, es, rfl, hw, sm, hr, h⟩ := h
  have big := lineBig
  show r_writes_of_0 _ [some w]
  cases hw with
  | d =>
    walk_at "go"
    refine go_checked_run (.d _) sm hr ?_
    unfold playW
    walk_at "go"
    walk_at "end"
    exact h
  | L =>
    walk_at "go"
    refine go_checked_run (.L _) sm hr ?_
    unfold playW
    walk_at "go"
    walk_at "end"
    exact h
theorem playQ_lt : ∀ (es : List Ev) (q : Qu) (n : Nat), (∀ p ∈ q, p.2 < n) → ∀ m ∈ (playQ q n es).2.1, m < n + (playQ q n es).1.length
  | [], q, n, h, m, hm => by cases q <;> simp [playQ] at hm
  | some k :: es, q, n, h, m, hm => by
    have e : playQ q n (some k :: es) = (k :: (playQ (putQ q k n) (n + 1) es).1, (playQ (putQ q k n) (n + 1) es).2.1, (playQ (putQ q k n) (n + 1) es).2.2) := by cases q <;> rfl
    rw [e] at hm ⊢
    have := playQ_lt es (putQ q k n) (n + 1) (fun p hp => by
      unfold putQ at hp
      split at hp
      · obtain ⟨p', hp', rfl⟩ := List.mem_map.mp hp
        have := h p' hp'
        split
        · show n < n + 1; omega
        · omega
      · rcases List.mem_append.mp hp with hp | hp
        · have := h p hp; omega
        · rw [List.mem_singleton.mp hp]; show n < n + 1; omega) m hm
    simp only [List.length_cons]
    omega
  | none :: es, [], n, h, m, hm => by simp [playQ] at hm
  | none :: es, x :: q, n, h, m, hm => by
    have e : playQ (x :: q) n (none :: es) = ((playQ q n es).1, x.2 :: (playQ q n es).2.1, (playQ q n es).2.2) := rfl
    rw [e] at hm ⊢
    rcases List.mem_cons.mp hm with rfl | hm
    · have := h x List.mem_cons_self
      show x.2 < n + _
      omega
    · exact playQ_lt es q n (fun p hp => h p (List.mem_cons_of_mem _ hp)) m hm
/-- the writes that a run shows -/
def shC (es : List Ev) : List (Str × Int) := (playQ [] 0 es).2.1.map (ctAt (playQ [] 0 es).1)
def sp_shown_by : SpW := fun ws Q => ∃ w es, ws = [w] ∧ DL w (es.map evD) ∧ Small es ∧ runB es = true ∧ Q (cW (shC es)) ws
theorem len_shown_by {ws : List W} {Q : W → List W → Prop} (h : sp_shown_by ws Q) : ws.length = 1 := by obtain ⟨_, _, rfl, _⟩ := h; rfl
theorem mono_shown_by : SpW.Mono sp_shown_by := fun ws Q Q' h ⟨w, ys, e, h1, h2, h3, q⟩ => ⟨w, ys, e, h1, h2, h3, h _ _ q⟩
theorem go_shown_by {w : W} {es : List Ev} {Q : W → List W → Prop} (h : DL w (es.map evD)) (h2 : Small es) (h3 : runB es = true) (k : Q (cW (shC es)) [w]) : sp_shown_by [w] Q := ⟨w, es, rfl, h, h2, h3, k⟩
/-- shown_by: slots 0 run 1 keys 2 shown 3 _ 4 writes 5 number -/
abbrev r_shown_by_2 : TSA := (tRet (tComp [5] (iL (tVar 2)) (gName 5) tYesA (tBin IxW (tVar 4) (tVar 5))))
abbrev r_shown_by_1 : TSA := tSeq (tAsg (tCall Pq.sp_counted_writes (tCons (tLend (tVar 1)) tNil)) (gName 4)) r_shown_by_2
abbrev r_shown_by_0 : TSA := tSeq (tUnpO [1, 2, 3] (tCall Pq.sp_checked_run (tCons (tLend (tVar 0)) tNil))) r_shown_by_1
theorem rd_shown_by {ws : List W} {Q : W → List W → Prop} (h : sp_shown_by ws Q) : r_shown_by_0 (endsW [0] ws Q) (startW ["run", "keys", "shown", "_", "writes", "number"] ws) := by
  obtain ⟨w, es, rfl, hw, sm, hr, h⟩ := h
  have big := lineBig
  have hl := sm.1
  have l1 := playQ_len es [] 0
  have lt := playQ_lt es [] 0 (fun p hp => by simp at hp)
  show r_shown_by_0 _ [some w, none, none, none, none, none]
  have comp : ∀ w3 : Option W, CompE [5] (EV.sl 2) ((playQ [] 0 es).2.1.map natD) (Ab.gName 5) tYesA (tBin IxW (Ab.tVar 4) (Ab.tVar 5)) [some w, some (kW (playQ [] 0 es).1), some (iW (playQ [] 0 es).2.1), w3, some (cW ((List.range (playQ [] 0 es).1.length).map (ctAt (playQ [] 0 es).1))), none] fun x ε1 => RtE (endsW [0] [w] Q) x ε1 := by
    intro w3
    generalize hp : playQ [] 0 es = r at lt l1 h ⊢
    have h : Q (cW (r.2.1.map (ctAt r.1))) [w] := by
      have := h
      unfold shC at this
      rwa [hp] at this
    refine g_compS (fun i acc ε => acc = (((r.2.1.map (ctAt r.1)).take i).map cD).map W.d ∧ ε = [some w, some (kW r.1), some (iW r.2.1), w3, some (cW ((List.range r.1.length).map (ctAt r.1))), none]) (by decide) rfl ⟨rfl, rfl⟩ (by rintro j acc ε ⟨_, rfl⟩; rfl) ?_ ?_
    · rintro i d acc ε hd ⟨rfl, rfl⟩
      rw [List.getElem?_map] at hd
      obtain ⟨m, hm, rfl⟩ := Option.map_eq_some_iff.mp hd
      have hml := lt m (List.mem_of_getElem? hm)
      have hi : i < r.2.1.length := (List.getElem?_eq_some_iff.mp hm).1
      have ha : (((((r.2.1.map (ctAt r.1)).take i).map cD).map W.d)).length < sizeLine := by
        simp only [List.length_map, List.length_take]
        omega
      have hat : atI ((((List.range r.1.length).map (ctAt r.1)).map cD)) (m : Int) = some (cD (ctAt r.1 m)) := by
        refine atI_nat ?_
        rw [List.getElem?_map, List.getElem?_map, List.getElem?_range (by omega)]
        rfl
      walk_at "go"
      refine ⟨?_, rfl⟩
      rw [List.take_succ, List.getElem?_map, hm]
      simp
    · rintro acc ε ⟨rfl, rfl⟩
      have e : (r.2.1.map (ctAt r.1)).take (r.2.1.map natD).length = r.2.1.map (ctAt r.1) := by
        refine List.take_of_length_le ?_
        simp
      rw [e]
      cases hw with
      | d => walk_at "go"; walk_at "end"; exact h
      | L => walk_at "go"; walk_at "end"; exact h
  cases hw with
  | d =>
    walk_at "go"
    refine go_checked_run (.d _) sm hr ?_
    unfold playW
    walk_at "go"
    refine go_counted_writes (ks := (playQ [] 0 es).1) (by omega) ?_
    walk_at "go"
    exact comp _
  | L =>
    walk_at "go"
    refine go_checked_run (.L _) sm hr ?_
    unfold playW
    walk_at "go"
    refine go_counted_writes (ks := (playQ [] 0 es).1) (by omega) ?_
    walk_at "go"
    exact comp _
end Pq

namespace Law05
open PySem PySem.Spec PyProof.Rows L2 Ab Lc Pk Pq

local macro_rules | `(tactic| walk_at "sd") => `(tactic| first | assumption | omega | exact True.intro | decide | (simp only [List.length_map, List.length_append, List.length_cons, List.length_nil, List.length_range, List.length_replicate]; omega))
local macro_rules | `(tactic| walk_at "dl") => `(tactic| first | assumption | exact .d _ | exact .L _ | exact DL.n | (apply DL.c; walk_at "dl"))
local macro_rules | `(tactic| walk_at "rfys") => `(tactic| first | exact .nil | (apply Rfys.cons; (walk_at "rfy"); (walk_at "rfys")))
local macro_rules | `(tactic| walk_at "rfy") => `(tactic| first | exact .d _ | exact .L _ | assumption | (apply Rfy.lst; walk_at "rfys"))
local macro_rules | `(tactic| walk_at "at") => `(tactic| first | assumption | exact rfl | (apply atI_nat; first | assumption | exact rfl))
local macro_rules | `(tactic| walk_at "rel") => `(tactic| first
  | assumption
  | exact .int
  | exact .str
  | exact .mk
  | exact .bool
  | ((refine' MulR.int ?k1); (case k1 => (refine' cmulA ?k2 ?k3; (case k2 => walk_at "sd"); (case k3 => walk_at "sd"))))
  | ((refine' MulR.str ?k1); (case k1 => walk_at "sd"))
  | ((refine' mulL ?k1 ?k2 ?k3); (case k1 => walk_at "dl"); (case k2 => walk_at "sd"); (case k3 => walk_at "sd"))
  | ((refine' IxW.S ?k1 ?k2); (case k1 => first | walk_at "sd" | decide +kernel); (case k2 => walk_at "at"))
  | ((refine' IntR.mk ?k1); (case k1 => first | walk_at "sd" | (refine' cdivA ?k2 ?k3; (case k2 => walk_at "sd"); (case k3 => walk_at "sd")) | (refine' cpow3A ?k2; (case k2 => walk_at "sd"))))
  | ((refine' IxW.L ?k1 ?k2); (case k1 => walk_at "dl"); (case k2 => walk_at "at"))
  | ((refine' IxW.T ?k1 ?k2); (case k1 => exact .d _); (case k2 => walk_at "at"))
  | exact lenM
  | exact lenD
  | ((refine' LenR.L ?k1); (case k1 => walk_at "dl"))
  | ((refine' LenR.T ?k1); (case k1 => exact .d _))
  | ((refine' LenR.S ?k1); (case k1 => walk_at "sd"))
  | ((refine' ListR.L ?k1); (case k1 => walk_at "dl"))
  | ((refine' ListR.T ?k1); (case k1 => exact .d _))
  | ((refine' ListSR.mk ?k1); (case k1 => first | walk_at "sd" | decide +kernel))
  | ((refine' InR.strL ?k1); (case k1 => walk_at "dl"))
  | ((refine' AddR.str ?k1); (case k1 => walk_at "sd"))
  | ((refine' AddR.lst ?k1 ?k2 ?k3); (case k1 => walk_at "dl"); (case k2 => walk_at "dl"); (case k3 => walk_at "sd"))
  | ((refine' AppR.D ?k1); (case k1 => walk_at "sd"))
  | ((refine' AppR.G ?k1); (case k1 => walk_at "sd"))
  | ((refine' ExtR.mk ?k1); (case k1 => walk_at "sd"))
  | exact .mk True.intro
  | ((refine' InsR.mk ?k1 ?k2 ?k3); (case k1 => walk_at "sd"); (case k2 => walk_at "sd"); (case k3 => walk_at "sd"))
  | ((refine' IsiR.mk ?k1 ?k2); (case k1 => exact rfl); (case k2 => exact rfl))
  | ((refine' JoinXR.L ?k1 ?k2); (case k1 => walk_at "dl"); (case k2 => walk_at "sd"))
  | ((refine' StR0.mk ?k1); (case k1 => walk_at "sd"))
  | ((refine' JoinR.L ?k1 ?k2); (case k1 => walk_at "dl"); (case k2 => walk_at "sd"))
  | ((refine' DPopR.mk ?k1); (case k1 => walk_at "sd"))
  | ((refine' StrR.int ?k1); (case k1 => walk_at "sd")))
local macro_rules | `(tactic| walk_at "pu") => `(tactic| first | exact rfl | (apply puts_v; walk_at "pu") | (apply puts_fl; (walk_at "pu"); exact rfl))
local macro_rules | `(tactic| walk_at "ev") => `(tactic| dsimp only [List.set_cons_zero, List.set_cons_succ, List.set_nil, putW, putP, setsW, Nat.reduceAdd, Nat.zero_add, Int.reduceToNat, restW, wipeW, keepW, plainW, List.getElem?_cons_zero, List.getElem?_cons_succ, ↓reduceIte])
local macro_rules | `(tactic| walk_at "g1") => `(tactic| first
  | with_reducible refine' g_seq ?_
  | with_reducible refine' g_asg ?_
  | with_reducible refine' g_drop ?_
  | with_reducible refine' g_ret ?_
  | with_reducible refine' g_retN ?_
  | with_reducible refine' g_ifS ?_
  | with_reducible refine' g_next ?_
  | with_reducible refine' g_bin ?_
  | with_reducible refine' g_K ?_
  | ((with_reducible refine' g_varD ?h1 ?_); (case h1 => exact rfl))
  | ((with_reducible refine' g_varL ?h1 ?_); (case h1 => exact rfl))
  | ((with_reducible refine' g_varK ?h1 ?_); (case h1 => exact rfl))
  | ((with_reducible refine' g_varI ?h1 ?_); (case h1 => exact rfl))
  | ((with_reducible refine' g_varV ?h1 ?_); (case h1 => exact rfl))
  | ((with_reducible refine' g_binPow ?h1 ?h2 ?_); (case h1 => first | exact ⟨by decide, by decide⟩ | (refine' cpowA ?k2 ?k3; (case k2 => walk_at "sd"); (case k3 => decide))); (case h2 => first | ((dsimp only [Int.reduceToNat]); done) | ((dsimp only [Int.reduceToNat]); exact rfl)))
  | ((with_reducible refine' g_binV ?h1 ?_); (case h1 => walk_at "rel"))
  | ((with_reducible refine' g_binE ?h1 ?h2 ?h3 ?h4 ?h5 ?_); (case h1 => exact rfl); (case h2 => exact rfl); (case h3 => exact rfl); (case h4 => exact rfl); (case h5 => walk_at "rel"); try walk_at "ev")
  | with_reducible refine' g_bl ?_
  | with_reducible refine' g_blE ?_
  | with_reducible refine' g_and ?_
  | with_reducible refine' g_or ?_
  | with_reducible refine' g_not ?_
  | with_reducible refine' g_if ?_
  | with_reducible refine' g_andV ?_
  | with_reducible refine' g_orV ?_
  | with_reducible refine' g_notV ?_
  | with_reducible refine' g_boE ?_
  | with_reducible refine' g_ifInT ?_
  | with_reducible refine' g_ifInF ?_
  | with_reducible refine' g_ifN ?_
  | ((with_reducible refine' g_ifT ?h1 ?_); (case h1 => exact rfl))
  | ((with_reducible refine' g_ifF ?h1 ?_); (case h1 => exact rfl))
  | ((with_reducible refine' g_ifDT ?h1 ?_); (case h1 => first | assumption | omega))
  | ((with_reducible refine' g_ifDF ?h1 ?_); (case h1 => first | assumption | omega))
  | with_reducible refine' g_nil ?_
  | with_reducible refine' g_cons ?_
  | with_reducible refine' g_cb ?_
  | ((with_reducible refine' g_cbE ?h1 ?h2 ?h3 ?_); (case h1 => exact rfl); (case h2 => exact rfl); (case h3 => walk_at "rel"))
  | with_reducible refine' g_mut ?_
  | ((with_reducible refine' g_mutB ?h1 ?h2 ?_); (case h1 => exact rfl); (case h2 => exact rfl))
  | ((with_reducible refine' g_mutE0 ?h1 ?h2 ?h3 ?_); (case h1 => exact rfl); (case h2 => walk_at "rel"); (case h3 => exact rfl); try walk_at "ev")
  | ((with_reducible refine' g_mutE1 ?h1 ?h2 ?h3 ?_); (case h1 => exact rfl); (case h2 => walk_at "rel"); (case h3 => exact rfl); try walk_at "ev")
  | ((with_reducible refine' g_mutE2 ?h1 ?h2 ?h3 ?_); (case h1 => exact rfl); (case h2 => walk_at "rel"); (case h3 => exact rfl); try walk_at "ev")
  | with_reducible refine' g_neg ?_
  | with_reducible refine' g_negE ?_
  | with_reducible refine' g_lv ?_
  | ((with_reducible refine' g_lvE ?h1 ?h2 ?h3 ?_); (case h1 => exact rfl); (case h2 => exact rfl); (case h3 => walk_at "sd"))
  | with_reducible refine' g_rd ?_
  | ((with_reducible refine' g_rdB ?h1 ?h2 ?_); (case h1 => exact rfl); (case h2 => exact rfl))
  | ((with_reducible refine' g_rdE ?h1 ?h2 ?h3 ?_); (case h1 => exact rfl); (case h2 => exact rfl); (case h3 => walk_at "rel"))
  | with_reducible refine' g_own ?_
  | with_reducible refine' g_ownV ?_
  | with_reducible refine' g_frz ?_
  | with_reducible refine' g_frzD ?_
  | ((with_reducible refine' g_frzV ?h1 ?_); (case h1 => walk_at "rfy"))
  | ((with_reducible refine' g_frzS ?h1 ?h2 ?_); (case h1 => exact rfl); (case h2 => walk_at "rfy"); try walk_at "ev")
  | with_reducible refine' g_lend ?_
  | with_reducible refine' g_lendV ?_
  | with_reducible refine' g_lendF ?_
  | ((with_reducible refine' g_lendS ?h1 (fun _ => ?_)); (case h1 => exact rfl); try walk_at "ev")
  | with_reducible refine' g_late ?_
  | with_reducible refine' g_lateN ?_
  | with_reducible refine' g_lateV ?_
  | with_reducible refine' g_lateF ?_
  | ((with_reducible refine' g_lateS ?h1 (fun _ => ?_)); (case h1 => exact rfl); try walk_at "ev")
  | with_reducible refine' g_call ?_
  | ((with_reducible refine' g_callE ?h1 ?_); (case h1 => exact rfl); try dsimp only)
  | ((with_reducible refine' g_putE ?h1 ?h2 ?_); (case h1 => exact rfl); (case h2 => walk_at "pu"); try walk_at "ev")
  | with_reducible refine' g_lst ?_
  | ((with_reducible refine' g_lstE ?h1 ?h2 ?_); (case h1 => exact rfl); (case h2 => exact rfl))
  | with_reducible refine' g_tup ?_
  | ((with_reducible refine' g_tupE ?h1 ?h2 ?h3 ?_); (case h1 => exact rfl); (case h2 => walk_at "rfys"); (case h3 => exact rfl))
  | with_reducible refine' g_noPart ?_
  | with_reducible refine' g_part ?_
  | with_reducible refine' g_partE ?_
  | with_reducible refine' g_sl ?_
  | ((with_reducible refine' g_slE ?h1 ?h2 ?h3 ?_); (case h1 => exact rfl); (case h2 => exact rfl); (case h3 => walk_at "dl"))
  | with_reducible refine' g_dget ?_
  | ((with_reducible refine' g_dgetS ?h1 ?h2 ?h3 ?_); (case h1 => exact rfl); (case h2 => first | assumption | exact rfl); (case h3 => exact rfl))
  | ((with_reducible refine' g_dgetI ?h1 ?h2 ?h3 ?_); (case h1 => exact rfl); (case h2 => first | assumption | exact rfl); (case h3 => exact rfl))
  | with_reducible refine' g_din ?_
  | ((with_reducible refine' g_dinS ?h1 ?h2 ?_); (case h1 => exact rfl); (case h2 => exact rfl))
  | ((with_reducible refine' g_ninS ?h1 ?h2 ?_); (case h1 => exact rfl); (case h2 => exact rfl))
  | ((with_reducible refine' g_dinI ?h1 ?h2 ?_); (case h1 => exact rfl); (case h2 => exact rfl))
  | ((with_reducible refine' g_ninI ?h1 ?h2 ?_); (case h1 => exact rfl); (case h2 => exact rfl))
  | with_reducible refine' g_dg2 ?_
  | ((with_reducible refine' g_dg2E ?h1 ?_); (case h1 => exact rfl))
  | ((with_reducible refine' g_dg2S' ?h1 ?h2 ?h3 ?_); (case h1 => exact rfl); (case h2 => assumption); (case h3 => exact rfl))
  | ((with_reducible refine' g_dg2I' ?h1 ?h2 ?h3 ?_); (case h1 => exact rfl); (case h2 => assumption); (case h3 => exact rfl))
  | ((with_reducible refine' g_dg2S ?h1 ?h2 ?_); (case h1 => exact rfl); (case h2 => exact rfl))
  | ((with_reducible refine' g_dg2I ?h1 ?h2 ?_); (case h1 => exact rfl); (case h2 => exact rfl))
  | with_reducible refine' g_dg1 ?_
  | ((with_reducible refine' g_dg1E ?h1 ?_); (case h1 => exact rfl))
  | ((with_reducible refine' g_dg1S' ?h1 ?h2 ?h3 ?_); (case h1 => exact rfl); (case h2 => assumption); (case h3 => exact rfl))
  | ((with_reducible refine' g_dg1S ?h1 ?h2 ?_); (case h1 => exact rfl); (case h2 => exact rfl))
  | ((with_reducible refine' g_dg1I ?h1 ?h2 ?_); (case h1 => exact rfl); (case h2 => exact rfl))
  | with_reducible refine' g_ch ?_
  | ((with_reducible refine' g_chE ?h1 ?_); (case h1 => walk_at "rel"))
  | ((with_reducible refine' g_chF ?h1 ?_); (case h1 => walk_at "rel"))
  | with_reducible refine' g_tru ?_
  | ((with_reducible refine' g_truE ?h1 ?h2 ?h3 ?_); (case h1 => exact rfl); (case h2 => exact rfl); (case h3 => constructor))
  | with_reducible refine' g_dropV ?_
  | ((with_reducible refine' g_dropE ?h1 ?_); (case h1 => exact rfl); try walk_at "ev")
  | with_reducible refine' g_asgV ?_
  | ((with_reducible refine' g_name ?h1 ?h2 ?_); (case h1 => exact rfl); (case h2 => first | ((walk_at "ev"); exact rfl) | ((walk_at "ev"); done) | exact rfl))
  | ((with_reducible refine' g_gtup ?h1 ?_); (case h1 => exact rfl))
  | with_reducible refine' g_gnil ?_
  | with_reducible refine' g_gcons ?_
  | with_reducible refine' g_gix ?_
  | ((with_reducible refine' g_gixE ?h1 ?h2 ?_); (case h1 => exact rfl); (case h2 => first | assumption | exact rfl); try walk_at "ev")
  | with_reducible refine' g_dput ?_
  | ((with_reducible refine' g_dputS ?h1 ?h2 ?h3 ?_); (case h1 => exact rfl); (case h2 => walk_at "sd"); (case h3 => exact rfl); try walk_at "ev")
  | ((with_reducible refine' g_dputI ?h1 ?h2 ?h3 ?_); (case h1 => exact rfl); (case h2 => walk_at "sd"); (case h3 => exact rfl); try walk_at "ev")
  | ((with_reducible refine' g_aug ?h1 ?_); (case h1 => exact rfl))
  | ((with_reducible refine' g_augE ?h1 ?h2 ?h3 ?h4 ?h5 ?_); (case h1 => exact rfl); (case h2 => exact rfl); (case h3 => walk_at "rel"); (case h4 => exact rfl); (case h5 => first | ((walk_at "ev"); exact rfl) | ((walk_at "ev"); done) | exact rfl))
  | with_reducible refine' g_par ?_
  | ((with_reducible refine' g_parE ?h1 ?h2 ?h3 ?h4 ?_); (case h1 => exact rfl); (case h2 => exact rfl); (case h3 => exact rfl); (case h4 => first | ((walk_at "ev"); exact rfl) | ((walk_at "ev"); done) | exact rfl))
  | with_reducible refine' g_iR1 ?_
  | ((with_reducible refine' g_r1E ?h1 ?_); (case h1 => walk_at "sd"))
  | with_reducible refine' g_iR2 ?_
  | ((with_reducible refine' g_r2E ?h1 ?_); (case h1 => walk_at "sd"))
  | with_reducible refine' g_iL ?_
  | ((with_reducible refine' g_iLE ?h1 ?h2 ?_); (case h1 => exact rfl); (case h2 => walk_at "dl"))
  | with_reducible refine' g_iT ?_
  | ((with_reducible refine' g_iTE ?h1 ?h2 ?_); (case h1 => exact rfl); (case h2 => exact .d _))
  | with_reducible refine' g_iS ?_
  | with_reducible refine' g_iSE ?_
  | with_reducible refine' g_iE ?_
  | ((with_reducible refine' g_iEE ?h1 ?h2 ?_); (case h1 => exact rfl); (case h2 => walk_at "dl"))
  | with_reducible refine' g_for ?_
  | with_reducible refine' g_comp ?_
  | with_reducible refine' g_yes ?_
  | ((with_reducible refine' g_accV ?h1 ?_); (case h1 => walk_at "sd"))
  | with_reducible refine' g_nxS ?_
  | with_reducible refine' g_nxF ?_
  | with_reducible refine' g_nxW ?_
  | with_reducible refine' g_rtS ?_
  | with_reducible refine' g_rtF ?_
  | with_reducible refine' g_rtW ?_
  | ((with_reducible refine' g_ownE ?h1 ?_); (case h1 => exact .mv rfl); try walk_at "ev")
  | with_reducible refine' g_bk ?_
  | with_reducible refine' g_ct ?_
  | with_reducible refine' g_bkS ?_
  | with_reducible refine' g_bkF ?_
  | with_reducible refine' g_bkW ?_
  | with_reducible refine' g_nxK ?_
  | with_reducible refine' g_ctK ?_
  | ((with_reducible refine' g_rtK ?h1 ?_); (case h1 => (simp only [List.length_cons, List.length_nil, List.length_set]; omega)); try walk_at "ev")
  | ((with_reducible refine' g_bkK ?h1 ?_); (case h1 => (simp only [List.length_cons, List.length_nil, List.length_set]; omega)); try walk_at "ev")
  | with_reducible refine' g_ctS ?_
  | with_reducible refine' g_ctF ?_
  | with_reducible refine' g_ctW ?_)
local macro_rules | `(tactic| walk_at "go") => `(tactic| repeat walk_at "g1")
local macro_rules | `(tactic| walk_at "end") => `(tactic| first
  | ((with_reducible refine' g_end ?h1 ?h2 ?h3 ?_); (case h1 => first | exact .v _ _ | exact .mv rfl); (case h2 => exact rfl); (case h3 => exact rfl))
  | ((with_reducible refine' g_endN ?h2 ?h3 ?_); (case h2 => exact rfl); (case h3 => exact rfl)))
local macro_rules | `(tactic| walk_at "g1") => `(tactic| first
  | with_reducible refine' g_tpo ?_
  | with_reducible refine' g_tpo3 ?_
  | with_reducible refine' g_tpo2 ?_
  | with_reducible refine' g_ixo ?_
  | ((with_reducible refine' g_ixoE ?h1 ?_); (case h1 => exact rfl))
  | with_reducible refine' g_lix ?_
  | ((with_reducible refine' g_lixE ?h1 ?h2 ?h3 ?_); (case h1 => exact rfl); (case h2 => exact rfl); (case h3 => exact rfl); try walk_at "ev")
  | with_reducible refine' g_unp ?_
  | ((with_reducible refine' g_unpE ?h1 ?h2 ?h3 ?_); (case h1 => exact .v _ _); (case h2 => exact rfl); (case h3 => simp); try walk_at "ev")
  | ((with_reducible refine' g_varT ?h1 ?_); (case h1 => exact rfl)))
local macro_rules | `(tactic| walk_at "rel") => `(tactic| first
  | exact IsNTR.t
  | exact IsNTR.d
  | ((refine' CountR.S ?k1); (case k1 => walk_at "dl")))
/-! # k05: its own defs -/
theorem ev_shaped {e : Ev} (h : ∀ k, e = some k → okKey k = true) : SeqAt.shaped (evD e) = true := by
  have := (show Good [e] from fun k hk => h k (List.mem_singleton.mp hk).symm).ev_shw (evD e) (by simp)
  exact this.shaped (by decide)
theorem eq_send {e : Ev} (h : ∀ k, e = some k → okKey k = true) : EqR (.d (evD e)) (.d (.tuple [.str "send"])) (.d (.bool e.isNone)) := by
  have := EqR.data (wx := .d (evD e)) (wy := .d (.tuple [.str "send"])) (.d _) (.d _) (ev_shaped h) (by decide +kernel)
  rwa [show PyData.eqv (evD e) (.tuple [.str "send"]) = e.isNone by
    cases e with
    | none => decide +kernel
    | some k => simp [evD, PyData.eqv, PyData.eqvAll]] at this
/-! ## _law_played -/
/-- where a queue stands: each waiting key with the number of its last write -/
def Fits (wr : List Str) (q : Qu) : Prop := ∀ p ∈ q, p.2 < wr.length ∧ wr[p.2]? = some p.1 ∧ (wr.take (p.2 + 1)).count p.1 = wr.count p.1
theorem Fits.put {wr : List Str} {q : Qu} (h : Fits wr q) (k : Str) : Fits (wr ++ [k]) (putQ q k wr.length) := by
  have old : ∀ p ∈ q, p.1 ≠ k → p.2 < (wr ++ [k]).length ∧ (wr ++ [k])[p.2]? = some p.1 ∧ ((wr ++ [k]).take (p.2 + 1)).count p.1 = (wr ++ [k]).count p.1 := fun p hp ne => by
    obtain ⟨h1, h2, h3⟩ := h p hp
    refine ⟨by simp; omega, by rw [List.getElem?_append_left h1]; exact h2, ?_⟩
    rw [List.take_append_of_le_length (by omega), h3, List.count_append, List.count_singleton, if_neg (by simpa using Ne.symm ne)]
    rfl
  have new : (k, wr.length).2 < (wr ++ [k]).length ∧ (wr ++ [k])[(k, wr.length).2]? = some (k, wr.length).1 ∧ ((wr ++ [k]).take ((k, wr.length).2 + 1)).count (k, wr.length).1 = (wr ++ [k]).count (k, wr.length).1 :=
    ⟨by simp, by simp, by rw [List.take_of_length_le (by simp)]⟩
  intro p hp
  unfold putQ at hp
  split at hp
  · obtain ⟨p', hp', e⟩ := List.mem_map.mp hp
    by_cases e1 : p'.1 = k
    · rw [if_pos e1] at e
      subst e
      exact new
    · rw [if_neg e1] at e
      subst e
      exact old _ hp' e1
  · rename_i hno
    rcases List.mem_append.mp hp with hp | hp
    · exact old p hp fun e => hno (List.mem_map.mpr ⟨p, hp, e⟩)
    · rw [List.mem_singleton.mp hp]
      exact new
def sp_played : SpW := fun ws Q => ∃ w es wt, ws = [w] ∧ DL w (es.map evD) ∧ Good es ∧ es.length ≤ 50000 ∧ play [] es = some wt ∧ ∀ z, Q (.d (.tuple [.list ((playQ [] 0 es).1.map PyData.str), .list ((shC es).map cD), z])) ws
theorem len_played {ws : List W} {Q : W → List W → Prop} (h : sp_played ws Q) : ws.length = 1 := by obtain ⟨_, _, _, rfl, _⟩ := h; rfl
theorem mono_played : SpW.Mono sp_played := fun ws Q Q' h ⟨w, ys, wt, e, h1, h2, h3, h4, q⟩ => ⟨w, ys, wt, e, h1, h2, h3, h4, fun z => h _ _ (q z)⟩
theorem go_played {w : W} {es : List Ev} {wt : List Str} {Q : W → List W → Prop} (h : DL w (es.map evD)) (h2 : Good es) (h3 : es.length ≤ 50000) (h4 : play [] es = some wt) (k : ∀ z, Q (.d (.tuple [.list ((playQ [] 0 es).1.map PyData.str), .list ((shC es).map cD), z])) [w]) : sp_played [w] Q := ⟨w, es, wt, rfl, h, h2, h3, h4, k⟩
/-- _law_played: slots 0 events 1 wrote 2 shown 3 waiting 4 event 5 key -/
abbrev r_played_1c_0a_1 : TSA := (tDrop (tMut "list" AppR (tVar 2) (tCons (tOwn (tTup (tCons (tOwn (tVar 5)) (tCons (tOwn (tRd "list" CountR (tVar 1) (tCons (tVar 5) tNil))) tNil)))) tNil)))
abbrev r_played_1c_0a_0 : TSA := tSeq (tAsg (tMut "list" Pop0R (tVar 3) (tCons (tOwn (tK (.d (.int 0)))) tNil)) (gName 5)) r_played_1c_0a_1
abbrev r_played_1c_0b_1a_0 : TSA := (tDrop (tMut "list" AppR (tVar 3) (tCons (tOwn (tBin IxW (tVar 4) (tK (.d (.int 1))))) tNil)))
abbrev r_played_1c_0b_1 : TSA := (tIfS (tBl (tBin (InR true) (tBin IxW (tVar 4) (tK (.d (.int 1)))) (tVar 3))) r_played_1c_0b_1a_0 tNext)
abbrev r_played_1c_0b_0 : TSA := tSeq (tDrop (tMut "list" AppR (tVar 1) (tCons (tOwn (tBin IxW (tVar 4) (tK (.d (.int 1))))) tNil))) r_played_1c_0b_1
def r_played_1c_0 : TSA := (tIfS (tBl (tBin EqR (tVar 4) (tTup (tCons (tOwn (tK (.d (.str "send")))) tNil)))) r_played_1c_0a_0 r_played_1c_0b_0)
def r_played_2 : TSA := (tRet (tTup (tCons (tFrz (tVar 1)) (tCons (tFrz (tVar 2)) (tCons (tFrz (tComp [5] (iL (tVar 3)) (gName 5) tYesA (tTup (tCons (tOwn (tVar 5)) (tCons (tOwn (tRd "list" CountR (tVar 1) (tCons (tVar 5) tNil))) tNil))))) tNil)))))
abbrev r_played_1 : TSA := tSeq (tFor [0] (iL (tVar 0)) (gName 4) r_played_1c_0) r_played_2
abbrev r_played_0 : TSA := tSeq (tParA [1, 2, 3] (tCons (tOwn (tLst tNil)) (tCons (tOwn (tLst tNil)) (tCons (tOwn (tLst tNil)) tNil)))) r_played_1

/-- where the walk stands -/
def At (es : List Ev) (i : Nat) (wr : List Str) (idx : List Nat) (q : Qu) : Prop :=
  (let r := playQ q wr.length (es.drop i); playQ [] 0 es = (wr ++ r.1, idx ++ r.2.1, r.2.2)) ∧ Fits wr q ∧ (q.map (·.1)).Nodup ∧ wr.length ≤ i ∧ idx.length ≤ i ∧ q.length ≤ i ∧ (play (q.map (·.1)) (es.drop i)).isSome = true ∧ (∀ k ∈ q.map (·.1), okKey k = true)
theorem rd_played {ws : List W} {Q : W → List W → Prop} (h : sp_played ws Q) : r_played_0 (endsW [0] ws Q) (startW ["events", "wrote", "shown", "waiting", "event", "key"] ws) := by
  obtain ⟨w, es, wt, rfl, hw, hg, hl, hpl, h⟩ := h
  have big := lineBig
  show r_played_0 _ [some w, none, none, none, none, none]
  have fin : ∀ (wr : List Str) (idx : List Nat) (q : Qu) (x4 x5 : Option W), q.length ≤ 100000 → playQ [] 0 es = (wr, idx, q) → r_played_2 (endsW [0] [w] Q) [some w, some (kW wr), some (cW (idx.map (ctAt wr))), some (kW (q.map (·.1))), x4, x5] := by
    intro wr idx q x4 x5 hq e
    have hd : shC es = idx.map (ctAt wr) := by unfold shC; rw [e]
    unfold r_played_2
    walk_at "go"
    obtain ⟨ks, hks⟩ : ∃ ks : List Str, ks = q.map (·.1) := ⟨_, rfl⟩
    have kl : ks.length = q.length := by rw [hks, List.length_map]
    rw [← hks]
    refine g_compS (fun i acc ε => acc = ((ks.take i).map fun k => PyData.tuple [.str k, .int (wr.count k : Nat)]).map W.d ∧ ε = [some w, some (W.d (PyData.list (List.map PyData.str wr))), some (W.d (PyData.list (List.map cD (List.map (ctAt wr) idx)))), some (kW ks), x4, none]) (by decide) rfl ⟨rfl, rfl⟩ (by rintro j acc ε ⟨_, rfl⟩; rfl) ?_ ?_
    · rintro i d ε0 ε hd ⟨rfl, rfl⟩
      rw [List.getElem?_map] at hd
      obtain ⟨k, hk, rfl⟩ := Option.map_eq_some_iff.mp hd
      have hi : i < ks.length := (List.getElem?_eq_some_iff.mp hk).1
      have ha : (((ks.take i).map fun k => PyData.tuple [.str k, .int (wr.count k : Nat)]).map W.d).length < sizeLine := by
        simp only [List.length_map, List.length_take]
        omega
      walk_at "go"
      refine ⟨?_, rfl⟩
      rw [List.take_succ, hk]
      simp
    · rintro acc ε ⟨rfl, rfl⟩
      rw [List.length_map, List.take_length]
      walk_at "go"
      have h := h (.list (ks.map fun k => PyData.tuple [.str k, .int (wr.count k : Nat)]))
      rw [e] at h
      rw [hd] at h
      cases hw with
      | d => walk_at "end"; exact h
      | L => walk_at "end"; exact h
  have turn : ∀ {D : EndsA} (i : Nat) (e : Ev) (wr : List Str) (idx : List Nat) (q : Qu) (x4 x5 : Option W), es[i]? = some e → At es i wr idx q →
      (∀ (wr : List Str) (idx : List Nat) (q : Qu) (x4 x5 : Option W), At es (i + 1) wr idx q → NxE D [some w, some (kW wr), some (cW (idx.map (ctAt (playQ [] 0 es).1))), some (kW (q.map (·.1))), x4, x5]) →
      r_played_1c_0 D [some w, some (kW wr), some (cW (idx.map (ctAt (playQ [] 0 es).1))), some (kW (q.map (·.1))), some (.d (evD e)), x5] := by
    rintro D i e wr idx q x4 x5 he ⟨hp, hf, hnd, l1, l2, l3, hpy, hok⟩ nx
    have hi : i < es.length := (List.getElem?_eq_some_iff.mp he).1
    have hdr : es.drop i = e :: es.drop (i + 1) := by
      rw [List.drop_eq_getElem_cons hi]
      congr 1
      exact (List.getElem?_eq_some_iff.mp he).2
    have hev := eq_send (e := e) fun k hk => hg k (by rw [← hk]; exact List.mem_of_getElem? he)
    rw [hdr] at hp hpy
    unfold r_played_1c_0
    cases e with
    | none =>
      cases q with
      | nil => simp [play] at hpy
      | cons x q =>
        obtain ⟨f1, f2, f3⟩ := hf x List.mem_cons_self
        have pop : Pop0R (kW ((x :: q).map (·.1))) [.d (.int 0)] (kW (q.map (·.1))) (.d (.str x.1)) := Pop0R.mk (ds := List.map PyData.str (List.map Prod.fst q)) (d := .str x.1)
        have ec : ctAt (playQ [] 0 es).1 x.2 = (x.1, ((wr.count x.1 : Nat) : Int)) := by
          rw [hp]
          unfold ctAt
          rw [show (wr ++ (playQ (x :: q) wr.length (none :: es.drop (i + 1))).1).getD x.2 "" = x.1 by
            rw [List.getD_eq_getElem?_getD, List.getElem?_append_left f1, f2]; rfl]
          rw [List.take_append_of_le_length (by omega), f3]
        have app := appC (cs := idx.map (ctAt (playQ [] 0 es).1)) (p := ctAt (playQ [] 0 es).1 x.2) (by rw [List.length_map]; omega)
        rw [ec] at app
        walk_at "go"
        rw [List.map_cons, List.nodup_cons] at hnd
        simp only [List.length_cons] at l3
        have e2 : idx.map (ctAt (playQ [] 0 es).1) ++ [(x.1, ((wr.count x.1 : Nat) : Int))] = (idx ++ [x.2]).map (ctAt (playQ [] 0 es).1) := by
          rw [List.map_append, List.map_singleton, ec]
        rw [e2]
        refine nx wr (idx ++ [x.2]) q _ _ ⟨?_, fun p hp => hf p (List.mem_cons_of_mem _ hp), hnd.2, by omega, by simp; omega, by omega, ?_, fun k hk => hok k (by simp at hk ⊢; exact .inr hk)⟩
        · have e3 : playQ (x :: q) wr.length (none :: es.drop (i + 1)) = ((playQ q wr.length (es.drop (i + 1))).1, x.2 :: (playQ q wr.length (es.drop (i + 1))).2.1, (playQ q wr.length (es.drop (i + 1))).2.2) := rfl
          rw [e3] at hp
          simpa using hp
        · exact hpy
    | some k =>
      have hpk := putQ_keys q k wr.length
      have app1 := appS (xs := wr) (x := k) (by omega)
      have app2 := appS (xs := q.map (·.1)) (x := k) (by rw [List.length_map]; omega)
      have hkg : okKey k = true := hg k (List.mem_of_getElem? he)
      have hql : (putQ q k wr.length).length = ((putQ q k wr.length).map (·.1)).length := by rw [List.length_map]
      have e3 : playQ q wr.length (some k :: es.drop (i + 1)) = (k :: (playQ (putQ q k wr.length) (wr.length + 1) (es.drop (i + 1))).1, (playQ (putQ q k wr.length) (wr.length + 1) (es.drop (i + 1))).2.1, (playQ (putQ q k wr.length) (wr.length + 1) (es.drop (i + 1))).2.2) := by cases q <;> rfl
      rw [e3] at hp
      rw [play_some] at hpy
      walk_at "go"
      refine g_ifD (fun hin => ?_) (fun hin => ?_)
      · rw [if_pos hin] at hpk hpy
        walk_at "go"
        rw [← hpk]
        refine nx (wr ++ [k]) idx (putQ q k wr.length) _ _ ⟨by simpa using hp, hf.put k, by rw [hpk]; exact hnd, by simp; omega, by omega, by rw [hql, hpk, List.length_map]; omega, by rw [hpk]; exact hpy, by rw [hpk]; exact hok⟩
      · rw [if_neg hin] at hpk hpy
        walk_at "go"
        rw [← hpk]
        refine nx (wr ++ [k]) idx (putQ q k wr.length) _ _ ⟨by simpa using hp, hf.put k, ?_, by simp; omega, by omega, by rw [hql, hpk]; simp; omega, by rw [hpk]; exact hpy, ?_⟩
        · rw [hpk]
          refine List.nodup_append.mpr ⟨hnd, by simp, fun a ha b hb e => ?_⟩
          simp at hb
          rw [e, hb] at ha
          exact hin ha
        · rw [hpk]
          intro y hy
          rcases List.mem_append.mp hy with z | z
          · exact hok y z
          · rw [List.mem_singleton.mp z]; exact hkg
  have z0 : At es 0 [] [] [] := ⟨by simp, fun p hp => by simp at hp, .nil, by simp, by simp, by simp, by rw [List.drop_zero]; show (play [] es).isSome = true; rw [hpl]; rfl, fun k hk => by simp at hk⟩
  have last : ∀ {wr : List Str} {idx : List Nat} {q : Qu}, At es es.length wr idx q → playQ [] 0 es = (wr, idx, q) ∧ q.length ≤ 100000 := by
    rintro wr idx q ⟨hp, _, _, _, _, l3, _⟩
    rw [List.drop_length] at hp
    refine ⟨?_, by omega⟩
    cases q <;> simpa [playQ] using hp
  cases hw with
  | d =>
    walk_at "go"
    refine g_forV (fun i ε => ∃ (wr : List Str) (idx : List Nat) (q : Qu) (x4 x5 : Option W), ε = [some (.d (.list (es.map evD))), some (kW wr), some (cW (idx.map (ctAt (playQ [] 0 es).1))), some (kW (q.map (·.1))), x4, x5] ∧ At es i wr idx q) ⟨[], [], [], _, _, rfl, z0⟩ ?_ ?_
    · rintro i d ε hd ⟨wr, idx, q, x4, x5, rfl, hp⟩
      rw [List.getElem?_map] at hd
      obtain ⟨e, he, rfl⟩ := Option.map_eq_some_iff.mp hd
      walk_at "go"
      refine turn i e wr idx q x4 _ he hp fun wr idx q x4 x5 hp => ?_
      walk_at "go"
      exact ⟨wr, idx, q, _, _, rfl, hp⟩
    · rintro ε ⟨wr, idx, q, x4, x5, rfl, hp⟩
      rw [List.length_map] at hp
      obtain ⟨e, hq⟩ := last hp
      walk_at "go"
      rw [show (playQ [] 0 es).1 = wr by rw [e]]
      exact fin wr idx q _ _ hq e
  | L =>
    walk_at "go"
    refine g_forS (fun i ε => ∃ (wr : List Str) (idx : List Nat) (q : Qu) (x4 x5 : Option W), ε = [some (eW es), some (kW wr), some (cW (idx.map (ctAt (playQ [] 0 es).1))), some (kW (q.map (·.1))), x4, x5] ∧ At es i wr idx q) (by decide) rfl ⟨[], [], [], _, _, rfl, z0⟩ (by rintro j ε ⟨_, _, _, _, _, rfl, _⟩; rfl) ?_ ?_
    · rintro i d ε hd ⟨wr, idx, q, x4, x5, rfl, hp⟩
      rw [List.getElem?_map] at hd
      obtain ⟨e, he, rfl⟩ := Option.map_eq_some_iff.mp hd
      walk_at "go"
      refine turn i e wr idx q x4 _ he hp fun wr idx q x4 x5 hp => ?_
      walk_at "go"
      exact ⟨wr, idx, q, _, _, rfl, hp⟩
    · rintro ε ⟨wr, idx, q, x4, x5, rfl, hp⟩
      rw [List.length_map] at hp
      obtain ⟨e, hq⟩ := last hp
      walk_at "go"
      rw [show (playQ [] 0 es).1 = wr by rw [e]]
      exact fin wr idx q _ _ hq e
theorem playQ_mem : ∀ (es : List Ev) (q : Qu) (n : Nat), ∀ k ∈ (playQ q n es).1, some k ∈ es
  | [], q, n, k, hk => by cases q <;> simp [playQ] at hk
  | some x :: es, q, n, k, hk => by
    have e : (playQ q n (some x :: es)).1 = x :: (playQ (putQ q x n) (n + 1) es).1 := by cases q <;> rfl
    rw [e] at hk
    rcases List.mem_cons.mp hk with rfl | hk
    · exact List.mem_cons_self
    · exact List.mem_cons_of_mem _ (playQ_mem es _ _ k hk)
  | none :: es, [], n, k, hk => by simp [playQ] at hk
  | none :: es, x :: q, n, k, hk => List.mem_cons_of_mem _ (playQ_mem es q n k hk)
/-! ## _law_right -/
def bothD (es : List Ev) : PyData := .list [.list ((playQ [] 0 es).1.map PyData.str), .list ((shC es).map cD)]
theorem both_shw {es : List Ev} (hg : Good es) (hl : es.length ≤ 2100) : Shw (bothD es) 3 10000000 := by
  have l1 := playQ_len es [] 0
  have lt := playQ_lt es [] 0 (fun p hp => by simp at hp)
  have ok : ∀ k ∈ (playQ [] 0 es).1, okKey k = true := fun k hk => hg k (playQ_mem es [] 0 k hk)
  have txt : ∀ k, okKey k = true → Shw (.str k) 0 122 := fun k hk => (shw_str (okKey_strOk hk)).mono (Nat.le_refl _) (by have := okKey_len hk; omega)
  have s1 : Shw (.list ((playQ [] 0 es).1.map PyData.str)) 2 1000000 := (shw_list (m := 0) (n := 122) fun d hd => by
    obtain ⟨x, hx, rfl⟩ := List.mem_map.mp hd
    exact txt x (ok x hx)).mono (by decide) (by rw [List.length_map]; omega)
  have s2 : Shw (.list ((shC es).map cD)) 2 1000000 := (shw_list (m := 1) (n := 300) fun d hd => by
    obtain ⟨p, hp, rfl⟩ := List.mem_map.mp hd
    obtain ⟨m, hm, rfl⟩ := List.mem_map.mp hp
    have hml := lt m hm
    have hk : (playQ [] 0 es).1.getD m "" ∈ (playQ [] 0 es).1 := by
      rw [List.getD_eq_getElem?_getD, List.getElem?_eq_getElem (by omega)]
      exact List.getElem_mem _
    have hc := List.count_le_length (a := (playQ [] 0 es).1.getD m "") (l := (playQ [] 0 es).1.take (m + 1))
    rw [List.length_take] at hc
    have s3 : Shw (.int (((playQ [] 0 es).1.take (m + 1)).count ((playQ [] 0 es).1.getD m "") : Nat)) 0 122 := (shw_int (k := 10) (by omega) (by decide) (by
      have : ((10 : Int) ^ 10) = 10000000000 := by decide
      rw [this]; omega) (by decide)).mono (Nat.le_refl _) (by decide)
    refine (shw_tup (m := 0) (n := 122) (xs := [.str ((playQ [] 0 es).1.getD m ""), .int (((playQ [] 0 es).1.take (m + 1)).count ((playQ [] 0 es).1.getD m "") : Nat)]) fun x hx => ?_).mono (by decide) (by show 2 * 124 + 3 ≤ 300; decide)
    rcases List.mem_cons.mp hx with rfl | hx
    · exact txt _ (ok _ hk)
    · rw [List.mem_singleton.mp hx]; exact s3).mono (by decide) (by rw [List.length_map, shC, List.length_map]; omega)
  exact (shw_list (m := 2) (n := 1000000) (xs := [_, _]) fun x hx => by
    rcases List.mem_cons.mp hx with rfl | hx
    · exact s1
    · rw [List.mem_singleton.mp hx]; exact s2).mono (Nat.le_refl _) (by show 2 * 1000002 + 2 ≤ 10000000; decide)
def sp_right : SpW := fun ws Q => ∃ w es wt, ws = [w] ∧ DL w (es.map evD) ∧ Good es ∧ es.length ≤ 2100 ∧ play [] es = some wt ∧ Q (.d (.bool true)) ws
theorem len_right {ws : List W} {Q : W → List W → Prop} (h : sp_right ws Q) : ws.length = 1 := by obtain ⟨_, _, _, rfl, _⟩ := h; rfl
theorem mono_right : SpW.Mono sp_right := fun ws Q Q' h ⟨w, ys, wt, e, h1, h2, h3, h4, q⟩ => ⟨w, ys, wt, e, h1, h2, h3, h4, h _ _ q⟩
theorem go_right {w : W} {es : List Ev} {wt : List Str} {Q : W → List W → Prop} (h : DL w (es.map evD)) (h2 : Good es) (h3 : es.length ≤ 2100) (h4 : play [] es = some wt) (k : Q (.d (.bool true)) [w]) : sp_right [w] Q := ⟨w, es, wt, rfl, h, h2, h3, h4, k⟩
/-- _law_right: slots 0 run 1 before 2 due 3 turn 4 found -/
abbrev r_right_1c_1a_0 : TSA := (tRet (tK (.d (.bool false))))
abbrev r_right_1c_3 : TSA := (tDrop (tGrow 4 1 (.tuple [.str "more", .int 1])))
abbrev r_right_1c_2 : TSA := tSeq (tDrop (tGrow 4 0 (.str "more"))) r_right_1c_3
abbrev r_right_1c_1 : TSA := tSeq (tIfS (tOr (tBl (tBin NeR (tCB ReprR (tCons (tVar 4) tNil)) (tCB ReprR (tCons (tLst (tCons (tOwn (tBin IxW (tVar 2) (tK (.d (.int 0))))) (tCons (tOwn (tBin IxW (tVar 2) (tK (.d (.int 1))))) tNil))) tNil)))) (tBl (tBin NeR (tCB ReprR (tCons (tVar 0) tNil)) (tVar 1)))) r_right_1c_1a_0 tNext) r_right_1c_2
def r_right_1c_0 : TSA := tSeq (tAsg (tLst (tCons (tOwn (tCall Pq.sp_writes_of (tCons (tLend (tVar 0)) tNil))) (tCons (tOwn (tCall Pq.sp_shown_by (tCons (tLend (tVar 0)) tNil))) tNil))) (gName 4)) r_right_1c_1
abbrev r_right_2 : TSA := (tRet (tK (.d (.bool true))))
def r_right_1 : TSA := tSeq (tFor [0] (iR1 (tCons (tK (.d (.int 2))) tNil)) (gName 3) r_right_1c_0) r_right_2
abbrev r_right_0 : TSA := tSeq (tParA [1, 2] (tCons (tOwn (tCB ReprR (tCons (tVar 0) tNil))) (tCons (tOwn (tCall Law05.sp_played (tCons (tLend (tVar 0)) tNil))) tNil))) r_right_1

theorem right_turn {D : EndsA} {w : W} {es : List Ev} {wt : List Str} {kept : Str} {z : PyData} {x3 x4 : Option W} (hw : DL w (es.map evD)) (hg : Good es) (hl : es.length ≤ 2100) (hp : play [] es = some wt) (hk : ReprR [w] (.d (.str kept)))
    (k : ∀ x4, NxE D [some w, some (.d (.str kept)), some (.d (.tuple [.list ((playQ [] 0 es).1.map PyData.str), .list ((shC es).map cD), z])), x3, x4]) :
    r_right_1c_0 D [some w, some (.d (.str kept)), some (.d (.tuple [.list ((playQ [] 0 es).1.map PyData.str), .list ((shC es).map cD), z])), x3, x4] := by
  have big := lineBig
  have sm := hg.small (by omega)
  have hr : runB es = true := by rw [hg.run, hp]; rfl
  have l1 := playQ_len es [] 0
  have l2 : (shC es).length = (playQ [] 0 es).2.1.length := by rw [shC, List.length_map]
  have sh := both_shw hg hl
  have r1 : ReprR [.lst [kW (playQ [] 0 es).1, cW (shC es)]] (.d (.str (bothD es).shown)) := sh.repr (.lst (.cons (.L _) (.cons (.L _) .nil))) (by decide) (by omega)
  have r2 : ReprR [.lst [.d (.list ((playQ [] 0 es).1.map PyData.str)), .d (.list ((shC es).map cD))]] (.d (.str (bothD es).shown)) := sh.repr (.lst (.cons (.d _) (.cons (.d _) .nil))) (by decide) (by omega)
  unfold r_right_1c_0
  cases hw with
  | d =>
    walk_at "go"
    refine go_writes_of (.d _) sm hr ?_
    walk_at "go"
    refine go_shown_by (.d _) sm hr ?_
    walk_at "go"
    refine g_ifT (decide_eq_true rfl) ?_
    walk_at "go"
    refine g_ifT (decide_eq_true rfl) ?_
    walk_at "go"
    refine g_grow (ds := (playQ [] 0 es).1.map PyData.str) rfl rfl (by simp only [List.length_map]; omega) ?_
    walk_at "ev"
    walk_at "go"
    refine g_grow (ds := (shC es).map cD) rfl rfl (by simp only [List.length_map]; omega) ?_
    walk_at "ev"
    walk_at "go"
    exact k _
  | L =>
    walk_at "go"
    refine go_writes_of (.L _) sm hr ?_
    walk_at "go"
    refine go_shown_by (.L _) sm hr ?_
    walk_at "go"
    refine g_ifT (decide_eq_true rfl) ?_
    walk_at "go"
    refine g_ifT (decide_eq_true rfl) ?_
    walk_at "go"
    refine g_grow (ds := (playQ [] 0 es).1.map PyData.str) rfl rfl (by simp only [List.length_map]; omega) ?_
    walk_at "ev"
    walk_at "go"
    refine g_grow (ds := (shC es).map cD) rfl rfl (by simp only [List.length_map]; omega) ?_
    walk_at "ev"
    walk_at "go"
    exact k _
theorem rd_right {ws : List W} {Q : W → List W → Prop} (h : sp_right ws Q) : r_right_0 (endsW [0] ws Q) (startW ["run", "before", "due", "turn", "found"] ws) := by
  obtain ⟨w, es, wt, rfl, hw, hg, hl, hp, h⟩ := h
  have big := lineBig
  show r_right_0 _ [some w, none, none, none, none]
  have fin : ∀ (kept : Str) (z : PyData), ReprR [w] (.d (.str kept)) → r_right_1 (endsW [0] [w] Q) [some w, some (.d (.str kept)), some (.d (.tuple [.list ((playQ [] 0 es).1.map PyData.str), .list ((shC es).map cD), z])), none, none] := by
    intro kept z hk
    unfold r_right_1
    walk_at "go"
    refine g_forV (fun i ε => ∃ x3 x4 : Option W, ε = [some w, some (.d (.str kept)), some (.d (.tuple [.list ((playQ [] 0 es).1.map PyData.str), .list ((shC es).map cD), z])), x3, x4]) ⟨_, _, rfl⟩ ?_ ?_
    · rintro i d ε hd ⟨x3, x4, rfl⟩
      obtain ⟨hi, rfl⟩ := rngD_get hd
      walk_at "go"
      refine right_turn hw hg hl hp hk fun x4 => ?_
      walk_at "go"
      exact ⟨_, _, rfl⟩
    · rintro ε ⟨x3, x4, rfl⟩
      walk_at "go"
      cases hw with
      | d => walk_at "end"; exact h
      | L => walk_at "end"; exact h
  cases hw with
  | d =>
    have hrep := hg.repr (w := .d (.list (es.map evD))) hl (.d _)
    walk_at "go"
    refine go_played (.d _) hg (by omega) hp fun z => ?_
    walk_at "go"
    exact fin _ z hrep
  | L =>
    have hrep := hg.repr (w := eW es) hl (.L _)
    walk_at "go"
    refine go_played (.L _) hg (by omega) hp fun z => ?_
    walk_at "go"
    exact fin _ z hrep
/-! ## law -/
def sp_law : SpW := fun ws Q => ∃ ns : List Int, ws = [.d (.list (ns.map PyData.int))] ∧ ns.length ≤ 63 ∧ Q (.d (.bool true)) ws
theorem len_law {ws : List W} {Q : W → List W → Prop} (h : sp_law ws Q) : ws.length = 1 := by obtain ⟨_, rfl, _⟩ := h; rfl
theorem mono_law : SpW.Mono sp_law := fun ws Q Q' h ⟨ns, e, h1, q⟩ => ⟨ns, e, h1, h _ _ q⟩
/-- law: slots 0 script 1 k 2 source 3 most 4 run 5 keys 6 number -/
abbrev r_law_0c_1c_1a_0 : TSA := (tRet (tK (.d (.bool false))))
abbrev r_law_0c_1c_3a_0 : TSA := (tRet (tK (.d (.bool false))))
abbrev r_law_0c_1c_5a_0 : TSA := (tRet (tK (.d (.bool false))))
abbrev r_law_0c_1c_5 : TSA := (tIfS (tNot (tBl (tCall Law05.sp_right (tCons (tLend (tVar 4)) tNil)))) r_law_0c_1c_5a_0 tNext)
abbrev r_law_0c_1c_4 : TSA := tSeq (tDrop (tMut "list" AppR (tVar 4) (tCons (tFrz (tTup (tCons (tOwn (tK (.d (.str "send")))) tNil))) tNil))) r_law_0c_1c_5
abbrev r_law_0c_1c_3 : TSA := tSeq (tIfS (tNot (tBl (tCall Law05.sp_right (tCons (tLend (tVar 4)) tNil)))) r_law_0c_1c_3a_0 tNext) r_law_0c_1c_4
abbrev r_law_0c_1c_2 : TSA := tSeq (tDrop (tMut "list" AppR (tVar 4) (tCons (tFrz (tTup (tCons (tOwn (tK (.d (.str "write")))) (tCons (tOwn (tK (.d (.str "more")))) tNil)))) tNil))) r_law_0c_1c_3
def r_law_0c_1c_1 : TSA := tSeq (tIfS (tNot (tBl (tCall Law05.sp_right (tCons (tLend (tVar 4)) tNil)))) r_law_0c_1c_1a_0 tNext) r_law_0c_1c_2
def r_law_0c_1c_0 : TSA := tSeq (tAsg (tCall FamE.sp_drawn (tLate (tCons (tVar 2) (tCons (tCall FamE.sp_keys (tCons (tLend (tVar 2)) (tCons (tLend (tVar 3)) tNil))) (tCons (tCall Lc.sp_draw (tCons (tLend (tVar 2)) (tCons (tK (.d (.int 61))) tNil))) tNil))))) (gName 4)) r_law_0c_1c_1
abbrev r_law_0c_2a_0c_0a_0 : TSA := (tRet (tK (.d (.bool false))))
def r_law_0c_2a_0c_0 : TSA := (tIfS (tNot (tBl (tCall Law05.sp_right (tCons (tCall FamE.sp_drawn (tCons (tLend (tVar 2)) (tCons (tLend (tVar 5)) (tCons (tK (.d (.int 1000))) tNil)))) tNil)))) r_law_0c_2a_0c_0a_0 tNext)
def r_law_0c_2a_0 : TSA := (tFor [0] (iL (tLst (tCons (tFrz (tCall FamE.sp_keys (tCons (tLend (tVar 2)) (tCons (tK (.d (.int 10))) tNil)))) (tCons (tFrz (tComp [6] (iR1 (tCons (tK (.d (.int 300))) tNil)) (gName 6) tYesA (tBin AddR (tK (.d (.str "k"))) (tCB StrR (tCons (tVar 6) tNil))))) tNil)))) (gName 5) r_law_0c_2a_0c_0)
def r_law_0c_2 : TSA := (tIfS (tBl (tBin EqR (tVar 1) (tK (.d (.int 0))))) r_law_0c_2a_0 tNext)
def r_law_0c_1 : TSA := tSeq (tFor [0] (iL (tLst (tCons (tOwn (tK (.d (.int 2)))) (tCons (tOwn (tK (.d (.int 4)))) (tCons (tOwn (tK (.d (.int 10)))) tNil))))) (gName 3) r_law_0c_1c_0) r_law_0c_2
def r_law_0c_0 : TSA := tSeq (tAsg (tCall Lc.sp_source (tCons (tLend (tVar 0)) (tCons (tLend (tVar 1)) tNil))) (gName 2)) r_law_0c_1
def r_law_1 : TSA := (tRet (tAndV (tBin EqR (tCall Pq.sp_writes_of (tCons (tLst tNil) tNil)) (tLst tNil)) (tBin EqR (tCall Pq.sp_shown_by (tCons (tLst (tCons (tFrz (tTup (tCons (tOwn (tK (.d (.str "write")))) (tCons (tOwn (tK (.d (.str "a")))) tNil)))) (tCons (tFrz (tTup (tCons (tOwn (tK (.d (.str "write")))) (tCons (tOwn (tK (.d (.str "a")))) tNil)))) (tCons (tFrz (tTup (tCons (tOwn (tK (.d (.str "send")))) tNil))) tNil)))) tNil)) (tLst (tCons (tFrz (tTup (tCons (tOwn (tK (.d (.str "a")))) (tCons (tOwn (tK (.d (.int 2)))) tNil)))) tNil)))))
abbrev r_law_0 : TSA := tSeq (tFor [0] (iR1 (tCons (tCB MaxR (tCons (tK (.d (.int 1))) (tCons (tCB MinR (tCons (tK (.d (.int 5))) (tCons (tCB LenR (tCons (tVar 0) tNil)) tNil))) tNil))) tNil)) (gName 1) r_law_0c_0) r_law_1

theorem pool_ok : ∀ x ∈ FamE.pool, okKey x = true := by
  have : FamE.pool.all okKey = true := by decide +kernel
  exact fun x hx => List.all_eq_true.mp this x hx
theorem knum_ok : ∀ i < 300, okKey (("k" : Str) ++ Str.ofString (toString ((i : Nat) : Int))) = true := by decide +kernel
theorem knum_len : ∀ i < 300, (Str.ofString (toString ((i : Nat) : Int))).length ≤ 3 := by decide +kernel
theorem more_ok : okKey "more" = true := by decide +kernel
abbrev mEv : Ev := some "more"
/-- a turn behind the draw of its run -/
theorem law_1 {D : EndsA} {w0 w1 w2 w3 : W} {es : List Ev} {wt : List Str} {x5 x6 : Option W} (hg : Good es) (hl : es.length ≤ 1000) (hp : play [] es = some wt)
    (k : ∀ x4, NxE D [some w0, some w1, some w2, some w3, x4, x5, x6]) :
    r_law_0c_1c_1 D [some w0, some w1, some w2, some w3, some (eW es), x5, x6] := by
  have big := lineBig
  have g1 : Good (es ++ [mEv]) := fun k hk => by
    rcases List.mem_append.mp hk with z | z
    · exact hg k z
    · have : k = "more" := by simpa [mEv] using z
      rw [this]; exact more_ok
  have g2 : Good (es ++ [mEv] ++ [none]) := fun k hk => g1 k (by simpa [mEv] using hk)
  have p1 : ∃ y wt', play [] (es ++ [mEv]) = some (y :: wt') := by
    rw [play_app, hp]
    show ∃ y wt', play wt (some "more" :: []) = some (y :: wt')
    rw [play_some]
    by_cases c : ("more" : Str) ∈ wt
    · rw [if_pos c]
      cases wt with
      | nil => simp at c
      | cons y wt => exact ⟨y, wt, by simp [play]⟩
    · rw [if_neg c]
      cases wt with
      | nil => exact ⟨_, _, by simp [play]; exact ⟨rfl, rfl⟩⟩
      | cons y wt => exact ⟨y, wt ++ [("more" : Str)], by simp [play]⟩
  obtain ⟨y, wt', p1⟩ := p1
  have p2 : play [] (es ++ [mEv] ++ [none]) = some wt' := by
    rw [play_app, p1]
    show play (y :: wt') [none] = _
    cases wt' <;> simp [play]
  have app1 := appE (es := es) (e := mEv) (by omega)
  have app2 := appE (es := es ++ [mEv]) (e := none) (by simp; omega)
  unfold r_law_0c_1c_1
  walk_at "go"
  refine go_right (.L _) hg (by omega) hp ?_
  walk_at "go"
  refine go_right (.L _) g1 (by simp; omega) p1 ?_
  walk_at "go"
  refine go_right (.L _) g2 (by simp; omega) p2 ?_
  walk_at "go"
  exact k _
theorem law_0 {D : EndsA} {w0 w1 : W} {s : Sou} {n : Nat} {most : Int} {x4 x5 x6 : Option W} (ok : Ok n s) (hn : n + 9000 < 2 ^ 40) (hm : 1 ≤ most) (hm2 : most ≤ 10)
    (k : ∀ s' x4, Ok (n + 4000) s' → NxE D [some w0, some w1, some (Src s'), some (.d (.int most)), x4, x5, x6]) :
    r_law_0c_1c_0 D [some w0, some w1, some (Src s), some (.d (.int most)), x4, x5, x6] := by
  have big := lineBig
  unfold r_law_0c_1c_0
  walk_at "go"
  refine ⟨s, n, most, rfl, ok, by omega, by omega, by omega, fun s1 ks ok1 kne kn kp kl => ?_⟩
  have k1 : 1 ≤ ks.length := List.length_pos_iff.mpr kne
  walk_at "go"
  refine go_draw ok1 (by omega) (by omega) fun s2 m ok2 m0 m1 => ?_
  walk_at "go"
  obtain ⟨j, rfl⟩ := Int.eq_ofNat_of_zero_le m0
  refine ⟨s2, n + 42, ks, j, _, rfl, .L _, ok2.mono (by omega), by omega, kne, by omega, fun x hx => okKey_strOk (pool_ok x (kp x hx)), by omega, fun s' es wt ok' hp hl hw => ?_⟩
  walk_at "go"
  exact law_1 (fun k hk => pool_ok k (kp k (hw k hk))) (by omega) hp fun x4 => k s' _ (ok'.mono (by omega))
/-- the long runs of the first turn -/
theorem law_l {D : EndsA} {w0 w1 : W} {s : Sou} {n : Nat} {ks : List Str} {x3 x4 x6 : Option W} (ok : Ok n s) (hn : n + 9000 < 2 ^ 40) (hk : ∀ x ∈ ks, okKey x = true) (k1 : ks ≠ []) (k2 : ks.length ≤ 300)
    (k : ∀ s', Ok (n + 3100) s' → NxE D [some w0, some w1, some (Src s'), x3, x4, some (.d (.list (ks.map PyData.str))), x6]) :
    r_law_0c_2a_0c_0 D [some w0, some w1, some (Src s), x3, x4, some (.d (.list (ks.map PyData.str))), x6] := by
  have big := lineBig
  unfold r_law_0c_2a_0c_0
  walk_at "go"
  refine ⟨s, n, ks, 1000, _, rfl, .d _, ok, by omega, k1, by omega, fun x hx => okKey_strOk (hk x hx), by omega, fun s' es wt ok' hp hl hw => ?_⟩
  walk_at "go"
  refine go_right (.L _) (fun k hk2 => hk k (hw k hk2)) (by omega) hp ?_
  walk_at "go"
  exact k s' (ok'.mono (by omega))
def kNums : List Str := (List.range 300).map fun j => ("k" : Str) ++ Str.ofString (toString ((j : Nat) : Int))
theorem law_2 {D : EndsA} {w0 : W} {at1 : Nat} {s : Sou} {n : Nat} {x3 x4 x5 : Option W} (ok : Ok n s) (hn : n + 20000 < 2 ^ 40)
    (k : ∀ s' x3 x4 x5, NxE D [some w0, some (.d (.int at1)), some (Src s'), x3, x4, x5, none]) :
    r_law_0c_2 D [some w0, some (.d (.int at1)), some (Src s), x3, x4, x5, none] := by
  have big := lineBig
  unfold r_law_0c_2
  walk_at "go"
  refine g_ifD (fun c => ?_) (fun c => ?_)
  · unfold r_law_0c_2a_0
    walk_at "go"
    refine ⟨s, n, 10, rfl, ok, by omega, by omega, by omega, fun s1 ks ok1 kne kn kp kl => ?_⟩
    walk_at "go"
    refine g_compV (fun i acc ε => ε = [some w0, some (.d (.int at1)), some (Src s1), x3, x4, x5, none] ∧ acc = (((List.range i).map fun j => ("k" : Str) ++ Str.ofString (toString ((j : Nat) : Int))).map PyData.str).map W.d) ⟨rfl, rfl⟩ ?_ ?_
    · rintro i d acc ε hd ⟨rfl, rfl⟩
      obtain ⟨hi, rfl⟩ := rngD_get hd
      have hi : i < 300 := by simpa using hi
      rw [show (0 : Int) + (i : Int) = (i : Int) by omega]
      have nl := knum_len i hi
      have ha : (((List.range i).map fun j => ("k" : Str) ++ Str.ofString (toString ((j : Nat) : Int))).map PyData.str).length < sizeLine := by
        rw [List.length_map, List.length_map, List.length_range]
        omega
      have ad : AddR (.d (.str "k")) (.d (.str (Str.ofString (toString ((i : Nat) : Int))))) (.d (.str (("k" : Str) ++ Str.ofString (toString ((i : Nat) : Int))))) := .str (by show 1 + _ ≤ _; omega)
      have hs : StrR [.d (.int (i : Int))] (.d (.str (Str.ofString (toString ((i : Nat) : Int))))) := .int (by
        rw [Int.natAbs_natCast]
        exact Nat.lt_of_le_of_lt (Nat.log2_le_self i) (by omega))
      walk_at "go"
      refine ⟨rfl, ?_⟩
      rw [List.range_succ]
      simp
    · rintro acc ε ⟨rfl, rfl⟩
      rw [rngD_len]
      walk_at "ev"
      walk_at "go"
      refine g_forV (fun i ε => ∃ (s' : Sou) (x5 : Option W), ε = [some w0, some (.d (.int at1)), some (Src s'), x3, x4, x5, none] ∧ Ok (n + 41 + 3100 * i) s') ⟨s1, _, rfl, ok1⟩ ?_ ?_
      · rintro i d ε hd ⟨s', x5, rfl, ok'⟩
        match i, hd, ok' with
        | 0, hd, ok' =>
          cases hd
          walk_at "go"
          refine law_l ok' (by omega) (fun x hx => pool_ok x (kp x hx)) kne (by omega) fun s' ok' => ?_
          walk_at "go"
          exact ⟨s', _, rfl, ok'.mono (by omega)⟩
        | 1, hd, ok' =>
          cases hd
          walk_at "go"
          refine law_l (ks := (List.range 300).map fun j => ("k" : Str) ++ Str.ofString (toString ((j : Nat) : Int))) ok' (by omega) (fun x hx => ?_) (by decide) (by simp) fun s' ok' => ?_
          · obtain ⟨j, hj, rfl⟩ := List.mem_map.mp hx
            exact knum_ok j (List.mem_range.mp hj)
          · walk_at "go"
            exact ⟨s', _, rfl, ok'.mono (by omega)⟩
        | i + 2, hd, ok' => simp at hd
      · rintro ε ⟨s', x5, rfl, ok'⟩
        walk_at "go"
        exact k _ _ _ _
  · walk_at "go"
    exact k _ _ _ _
theorem law_c {D : EndsA} {ns : List Int} {at1 : Nat} {x2 x3 x4 x5 : Option W} (hl : ns.length ≤ 63) (h1 : at1 < 63)
    (k : ∀ x2 x3 x4 x5, NxE D [some (.d (.list (ns.map PyData.int))), some (.d (.int at1)), x2, x3, x4, x5, none]) :
    r_law_0c_0 D [some (.d (.list (ns.map PyData.int))), some (.d (.int at1)), x2, x3, x4, x5, none] := by
  have big := lineBig
  unfold r_law_0c_0
  walk_at "go"
  refine ⟨ns, at1, rfl, hl, h1, fun s ok => ?_⟩
  walk_at "go"
  unfold r_law_0c_1
  walk_at "go"
  refine g_forV (fun i ε => ∃ (s' : Sou) (x3 x4 : Option W), ε = [some (.d (.list (ns.map PyData.int))), some (.d (.int at1)), some (Src s'), x3, x4, x5, none] ∧ Ok (4000 * i) s') ⟨s, _, _, rfl, ok⟩ ?_ ?_
  · rintro i d ε hd ⟨s', x3, x4, rfl, ok'⟩
    obtain ⟨mo, rfl, m1, m2, hi⟩ : ∃ mo : Int, d = .int mo ∧ 1 ≤ mo ∧ mo ≤ 10 ∧ i < 3 := by
      match i, hd with
      | 0, hd => cases hd; exact ⟨_, rfl, by decide, by decide, by decide⟩
      | 1, hd => cases hd; exact ⟨_, rfl, by decide, by decide, by decide⟩
      | 2, hd => cases hd; exact ⟨_, rfl, by decide, by decide, by decide⟩
      | i + 3, hd => simp at hd
    walk_at "go"
    refine law_0 ok' (by omega) m1 m2 fun s' x4 ok' => ?_
    walk_at "go"
    exact ⟨s', _, _, rfl, ok'.mono (by omega)⟩
  · rintro ε ⟨s', x3, x4, rfl, ok'⟩
    walk_at "go"
    refine law_2 ok' (by simp) fun s' x3 x4 x5 => ?_
    exact k _ _ _ _
abbrev oneA : List (Str × Int) := [("a", 2)]
theorem rd_law {ws : List W} {Q : W → List W → Prop} (h : sp_law ws Q) : r_law_0 (endsW [0] ws Q) (startW ["script", "k", "source", "most", "run", "keys", "number"] ws) := by
  obtain ⟨ns, rfl, hl, h⟩ := h
  have big := lineBig
  show r_law_0 _ [some (.d (.list (ns.map PyData.int))), none, none, none, none, none, none]
  walk_at "go"
  refine g_forV (fun i ε => ∃ x1 x2 x3 x4 x5, ε = [some (.d (.list (ns.map PyData.int))), x1, x2, x3, x4, x5, none]) ⟨_, _, _, _, _, rfl⟩ ?_ ?_
  · rintro i d ε hd ⟨x1, x2, x3, x4, x5, rfl⟩
    obtain ⟨hi, rfl⟩ := rngD_get hd
    have hi : i < 63 := by
      split at hi <;> split at hi <;> omega
    have e : (0 : Int) + (i : Int) = (i : Nat) := by omega
    walk_at "go"
    rw [e]
    refine law_c hl hi fun x2 x3 x4 x5 => ?_
    walk_at "go"
    exact ⟨_, _, _, _, _, rfl⟩
  · rintro ε ⟨x1, x2, x3, x4, x5, rfl⟩
    have g0 : Good [] := fun k hk => by simp at hk
    have g1 : Good [some "a", some "a", none] := fun k hk => by
      have : k = "a" := by simpa using hk
      rw [this]; decide +kernel
    have e0 := eq_nil (xs := []) fun x hx => by simp at hx
    have es : shC [some "a", some "a", none] = oneA := by decide +kernel
    have e1 : EqR (cW oneA) (.lst [.d (.tuple [.str "a", .int 2])]) (.d (.bool true)) := by
      have := EqR.data (wx := cW oneA) (wy := .lst [.d (.tuple [.str "a", .int 2])]) (x := .list [.tuple [.str "a", .int 2]]) (y := .list [.tuple [.str "a", .int 2]]) (.L _) (.lst (.cons (.d _) .nil)) (by decide +kernel) (by decide +kernel)
      rwa [show PyData.eqv (.list [.tuple [.str "a", .int 2]]) (.list [.tuple [.str "a", .int 2]]) = true by decide +kernel] at this
    walk_at "go"
    unfold r_law_1
    walk_at "go"
    refine go_writes_of (es := []) DL.n (g0.small (by simp)) (by rw [g0.run]; rfl) ?_
    walk_at "go"
    refine go_shown_by (es := [some "a", some "a", none]) (DL.c (DL.c (DL.c DL.n))) (g1.small (by simp)) (by rw [g1.run]; decide +kernel) ?_
    rw [es]
    walk_at "go"
    walk_at "end"
    exact h
end Law05

namespace Rk05
open PySem PySem.Spec PyProof.Rows L2 Ab
abbrev theP : Program := PySem.Challenge.pw_conflate_k05_logs_of_runs
def topS (i : Nat) : Stmt := theP.main.body.getD i (.Pass ⟨0, 0, 0, 0⟩)
abbrev s_Pqplay : Stmt := topS 4
theorem sc_Pqplay : FnScope ["events", "keys", "shown", "entered", "waiting", "event", "key"] ["events"] (defScope s_Pqplay) := ⟨rfl, rfl, rfl, by decide +kernel, rfl, by decide +kernel, by decide +kernel⟩
theorem d_Pqplay {P : Program} {w : World} {K : PySem.W.Frag} {mg : Str → Option Value} {base : Heap} {f : Addr} {k : Nat} {cdv : Value} {A : Around} {outer : List PySem.Env} {s : Shared} {H : Hp} {E : XK} (bi : Bi mg) (hr : Room k (A.deeper (envOfC "play" (defScope s_Pqplay) s.heap.objs.size f cdv))) :
    ASs (cxOf CX0 P w K mg base ["events", "keys", "shown", "entered", "waiting", "event", "key"] "play" (defScope s_Pqplay) f cdv A outer s H E).nox [0] (defBody s_Pqplay) Pq.r_play_0 :=
  (ass_cons (as_set (i := 1) sc_Pqplay.nd rfl (.inl rfl) (ae_lst aa_nil)) (ass_cons (as_set (i := 2) sc_Pqplay.nd rfl (.inl rfl) (ae_lst aa_nil)) (ass_cons (as_set (i := 3) sc_Pqplay.nd rfl (.inl rfl) (ae_lst aa_nil)) (ass_cons (as_set (i := 4) sc_Pqplay.nd rfl (.inl rfl) ae_dnew) (ass_cons (as_for (ai_list (av 0)) (ag_name (i := 5) sc_Pqplay.nd rfl (.inl rfl)) (ass_one (as_if (at_cmp (oa_eq hr.units) (ae_callB ca_len rfl (bi.no _ (by decide)) rfl (aa_cons (av 5) aa_nil)) ae_int) (ass_cons (as_set (i := 6) sc_Pqplay.nd rfl (.inl rfl) (ae_ix ia (av 5) ae_int)) (ass_cons (as_if (at_dnotin (u1 hr) (av 6) (av 4)) (ass_one (as_expr (ae_mut PySem.F.plainAttrs_list PySem.F.slot_list_append PySem.F.type_list_append mu_append (av 3) (aa_cons (ae_own (av 6)) aa_nil)))) ass_nil) (ass_cons (as_dput (u1 hr) (av 4) (av 6) (ae_callB ca_len rfl (bi.no _ (by decide)) rfl (aa_cons (av 1) aa_nil))) (ass_one (as_expr (ae_mut PySem.F.plainAttrs_list PySem.F.slot_list_append PySem.F.type_list_append mu_append (av 1) (aa_cons (ae_own (av 6)) aa_nil))))))) (ass_one (as_if (at_truth (av 4)) (ass_one (as_expr (ae_mut PySem.F.plainAttrs_list PySem.F.slot_list_append PySem.F.type_list_append mu_append (av 2) (aa_cons (ae_own (ae_mut PySem.F.plainAttrs_dict PySem.F.slot_dict_pop PySem.F.type_dict_pop mu_dpop (av 4) (aa_cons (ae_own (ae_ix ia (av 3) (ae_callB ca_len rfl (bi.no _ (by decide)) rfl (aa_cons (av 2) aa_nil)))) aa_nil))) aa_nil)))) (ass_one as_break)))))) (ass_one (as_ret (ae_tupO (aa_cons (ae_own (av 1)) (aa_cons (ae_own (av 2)) (aa_cons (ae_own (ae_lvals rfl rfl (bi.no _ (by decide)) (av 4))) aa_nil)))))))))))
theorem ok_Pqplay {P : Program} {w : World} {K : PySem.W.Frag} {mg : Str → Option Value} {base : Heap} {f : Addr} {fd : FuncData} {k : Nat} (F : Fun K "play" "play" s_Pqplay f fd) (bi : Bi mg) : FnOk P w K mg base CX0 (k + 1) f fd ["events"] (spA K Pq.sp_play) := by
  refine fnA F sc_Pqplay [0] (fun ws Q h => Pq.len_play h) fun cdv A outer s H E hr => ⟨_, d_Pqplay bi  hr, fun ws Q h => Pq.rd_play h⟩
abbrev s_Pkare_keys : Stmt := topS 7
theorem sc_Pkare_keys : FnScope ["words", "text", "word"] ["words"] (defScope s_Pkare_keys) := ⟨rfl, rfl, rfl, by decide +kernel, rfl, by decide +kernel, by decide +kernel⟩
theorem d_Pkare_keys {P : Program} {w : World} {K : PySem.W.Frag} {mg : Str → Option Value} {base : Heap} {f : Addr} {k : Nat} {cdv : Value} {A : Around} {outer : List PySem.Env} {s : Shared} {H : Hp} {E : XK} (bi : Bi mg) (cLONGEST_KEY : CnD K mg "LONGEST_KEY" (.int 12)) (hr : Room k (A.deeper (envOfC "are_keys" (defScope s_Pkare_keys) s.heap.objs.size f cdv))) :
    ASs (cxOf CX0 P w K mg base ["words", "text", "word"] "are_keys" (defScope s_Pkare_keys) f cdv A outer s H E).nox [0] (defBody s_Pkare_keys) Pk.r_are_keys_0 :=
  (ass_cons (as_set (i := 1) sc_Pkare_keys.nd rfl (.inl rfl) (ae_op oa_add ae_str (ae_rd PySem.F.plainAttrs_str PySem.F.slot_str_join PySem.F.type_str_join (rd_joinX rfl) ae_str (aa_cons (av 0) aa_nil)))) (ass_cons (as_if (AW.at (aw_or (at_not (at_val (ae_rd0 PySem.F.plainAttrs_str PySem.F.slot_str_isascii PySem.F.type_str_isascii rd_isascii (av 1)))) (aw_or (at_cmp (oa_ne hr.units) (av 1) (ae_rd0 PySem.F.plainAttrs_str PySem.F.slot_str_lower PySem.F.type_str_lower rd_lower (av 1))) (aw_or1 (at_cmp oa_inS ae_str (av 1)))))) (ass_one (as_ret ae_bl)) ass_nil) (ass_cons (as_either (as_for (ai_list (av 0)) (ag_name (i := 2) sc_Pkare_keys.nd rfl (.inl rfl)) (ass_one (as_if (AW.at (aw_or (at_cmp oa_gt (ae_callB ca_len rfl (bi.no _ (by decide)) rfl (aa_cons (av 2) aa_nil)) (ae_cn cLONGEST_KEY)) (aw_or1 (at_not (at_val (ae_rd0 PySem.F.plainAttrs_str PySem.F.slot_str_isidentifier PySem.F.type_str_isidentifier rd_isident (av 2))))))) (ass_one (as_ret ae_bl)) ass_nil))) (as_forK 0 (ag_name (i := 2) sc_Pkare_keys.nd rfl (.inl rfl)) (ass_one (as_if (AW.at (aw_or (at_cmp oa_gt (ae_callB ca_len rfl (bi.no _ (by decide)) rfl (aa_cons (av 2) aa_nil)) (ae_cn cLONGEST_KEY)) (aw_or1 (at_not (at_val (ae_rd0 PySem.F.plainAttrs_str PySem.F.slot_str_isidentifier PySem.F.type_str_isidentifier rd_isident (av 2))))))) (ass_one (as_ret ae_bl)) ass_nil)))) (ass_one (as_ret ae_bl)))))
theorem ok_Pkare_keys {P : Program} {w : World} {K : PySem.W.Frag} {mg : Str → Option Value} {base : Heap} {f : Addr} {fd : FuncData} {k : Nat} (F : Fun K "are_keys" "are_keys" s_Pkare_keys f fd) (bi : Bi mg) (cLONGEST_KEY : CnD K mg "LONGEST_KEY" (.int 12)) : FnOk P w K mg base CX0 (k + 1) f fd ["words"] (spA K Pk.sp_are_keys) := by
  refine fnA F sc_Pkare_keys [0] (fun ws Q h => Pk.len_are_keys h) fun cdv A outer s H E hr => ⟨_, d_Pkare_keys bi cLONGEST_KEY hr, fun ws Q h => Pk.rd_are_keys h⟩
abbrev s_Pkis_events : Stmt := topS 8
theorem sc_Pkis_events : FnScope ["value", "keys", "event", "word", "key"] ["value"] (defScope s_Pkis_events) := ⟨rfl, rfl, rfl, by decide +kernel, rfl, by decide +kernel, by decide +kernel⟩
theorem d_Pkis_events {P : Program} {w : World} {K : PySem.W.Frag} {mg : Str → Option Value} {base : Heap} {f : Addr} {k : Nat} {cdv : Value} {A : Around} {outer : List PySem.Env} {s : Shared} {H : Hp} {E : XK} (bi : Bi mg) {k0 : Nat} (DPkare_keys : Df P w K mg base k0 "are_keys" Pk.sp_are_keys) (h0 : k0 ≤ k) (hr : Room k (A.deeper (envOfC "is_events" (defScope s_Pkis_events) s.heap.objs.size f cdv))) :
    ASs (cxOf CX0 P w K mg base ["value", "keys", "event", "word", "key"] "is_events" (defScope s_Pkis_events) f cdv A outer s H E).nox [0] (defBody s_Pkis_events) Pk.r_is_events_0 :=
  (ass_cons (as_if (at_not (at_val (ae_callB ca_isi rfl (bi.no _ (by decide)) rfl (aa_cons (av 0) (aa_cons (ae_ty rfl (bi.no _ (by decide)) rfl) aa_nil))))) (ass_one (as_ret ae_bl)) ass_nil) (ass_cons (as_set (i := 1) sc_Pkis_events.nd rfl (.inl rfl) ae_dnew) (ass_cons (as_for (ai_list (av 0)) (ag_name (i := 2) sc_Pkis_events.nd rfl (.inl rfl)) (ass_cons (as_if (at_not (at_val (ae_callB ca_isi rfl (bi.no _ (by decide)) rfl (aa_cons (av 2) (aa_cons (ae_ty rfl (bi.no _ (by decide)) rfl) aa_nil))))) (ass_one (as_ret ae_bl)) ass_nil) (ass_one (as_if (at_cmp (oa_eq hr.units) (ae_callB ca_len rfl (bi.no _ (by decide)) rfl (aa_cons (av 2) aa_nil)) ae_int) (ass_cons (as_asg (av 2) (ag_tup rfl (ags_cons (ag_name (i := 3) sc_Pkis_events.nd rfl (.inl rfl)) (ags_cons (ag_name (i := 4) sc_Pkis_events.nd rfl (.inl rfl)) ags_nil)))) (ass_cons (as_if (AW.at (aw_or (at_not (at_val (ae_callB ca_isi rfl (bi.no _ (by decide)) rfl (aa_cons (av 3) (aa_cons (ae_ty rfl (bi.no _ (by decide)) rfl) aa_nil))))) (aw_or (at_cmp (oa_ne hr.units) (av 3) ae_str) (aw_or1 (at_not (at_val (ae_callB ca_isi rfl (bi.no _ (by decide)) rfl (aa_cons (av 4) (aa_cons (ae_ty rfl (bi.no _ (by decide)) rfl) aa_nil))))))))) (ass_one (as_ret ae_bl)) ass_nil) (ass_one (as_dput (u1 hr) (av 1) (av 4) ae_bl)))) (ass_one (as_if (AW.at (aw_or (at_cmp (oa_ne hr.units) (ae_callB ca_len rfl (bi.no _ (by decide)) rfl (aa_cons (av 2) aa_nil)) ae_int) (aw_or (at_not (at_val (ae_callB ca_isi rfl (bi.no _ (by decide)) rfl (aa_cons (ae_ix ia (av 2) ae_int) (aa_cons (ae_ty rfl (bi.no _ (by decide)) rfl) aa_nil))))) (aw_or1 (at_cmp (oa_ne hr.units) (ae_ix ia (av 2) ae_int) ae_str))))) (ass_one (as_ret ae_bl)) ass_nil)))))) (ass_one (as_ret (ae_df DPkare_keys hr (aa_cons (ae_lend (av 1)) aa_nil)))))))
theorem ok_Pkis_events {P : Program} {w : World} {K : PySem.W.Frag} {mg : Str → Option Value} {base : Heap} {f : Addr} {fd : FuncData} {k : Nat} (F : Fun K "is_events" "is_events" s_Pkis_events f fd) (bi : Bi mg) {k0 : Nat} (DPkare_keys : Df P w K mg base k0 "are_keys" Pk.sp_are_keys) (h0 : k0 ≤ k) : FnOk P w K mg base CX0 (k + 1) f fd ["value"] (spA K Pk.sp_is_events) := by
  refine fnA F sc_Pkis_events [0] (fun ws Q h => Pk.len_is_events h) fun cdv A outer s H E hr => ⟨_, d_Pkis_events bi DPkare_keys h0 hr, fun ws Q h => Pk.rd_is_events h⟩
abbrev s_Pqplayed : Stmt := topS 9
theorem sc_Pqplayed : FnScope ["value", "found"] ["value"] (defScope s_Pqplayed) := ⟨rfl, rfl, rfl, by decide +kernel, rfl, by decide +kernel, by decide +kernel⟩
theorem d_Pqplayed {P : Program} {w : World} {K : PySem.W.Frag} {mg : Str → Option Value} {base : Heap} {f : Addr} {k : Nat} {cdv : Value} {A : Around} {outer : List PySem.Env} {s : Shared} {H : Hp} {E : XK} (bi : Bi mg) {k0 : Nat} (DPqplay : Df P w K mg base k0 "play" Pq.sp_play) {k1 : Nat} (DPkis_events : Df P w K mg base k1 "is_events" Pk.sp_is_events) (h0 : k0 ≤ k) (h1 : k1 ≤ k) (hr : Room k (A.deeper (envOfC "played" (defScope s_Pqplayed) s.heap.objs.size f cdv))) :
    ASs (cxOf CX0 P w K mg base ["value", "found"] "played" (defScope s_Pqplayed) f cdv A outer s H E).nox [0] (defBody s_Pqplayed) Pq.r_played_0 :=
  (ass_cons (as_if (at_not (at_val (ae_df DPkis_events hr (aa_cons (ae_lend (av 0)) aa_nil)))) (ass_one (as_ret ae_non)) ass_nil) (ass_cons (as_set (i := 1) sc_Pqplayed.nd rfl (.inl rfl) (ae_df DPqplay hr (aa_cons (ae_lend (av 0)) aa_nil))) (ass_one (as_ret (ae_if (at_cmp (oa_eq hr.units) (ae_op oa_add (ae_lenIx (k := 0) rfl (bi.no _ (by decide)) (av 1)) (ae_lenIx (k := 1) rfl (bi.no _ (by decide)) (av 1))) (ae_callB ca_len rfl (bi.no _ (by decide)) rfl (aa_cons (av 0) aa_nil))) (av 1) ae_non)))))
theorem ok_Pqplayed {P : Program} {w : World} {K : PySem.W.Frag} {mg : Str → Option Value} {base : Heap} {f : Addr} {fd : FuncData} {k : Nat} (F : Fun K "played" "played" s_Pqplayed f fd) (bi : Bi mg) {k0 : Nat} (DPqplay : Df P w K mg base k0 "play" Pq.sp_play) {k1 : Nat} (DPkis_events : Df P w K mg base k1 "is_events" Pk.sp_is_events) (h0 : k0 ≤ k) (h1 : k1 ≤ k) : FnOk P w K mg base CX0 (k + 1) f fd ["value"] (spA K Pq.sp_played) := by
  refine fnA F sc_Pqplayed [0] (fun ws Q h => Pq.len_played h) fun cdv A outer s H E hr => ⟨_, d_Pqplayed bi DPqplay DPkis_events h0 h1 hr, fun ws Q h => Pq.rd_played h⟩
abbrev s_Pqchecked_run : Stmt := topS 11
theorem sc_Pqchecked_run : FnScope ["value", "found"] ["value"] (defScope s_Pqchecked_run) := ⟨rfl, rfl, rfl, by decide +kernel, rfl, by decide +kernel, by decide +kernel⟩
theorem d_Pqchecked_run {P : Program} {w : World} {K : PySem.W.Frag} {mg : Str → Option Value} {base : Heap} {f : Addr} {k : Nat} {cdv : Value} {A : Around} {outer : List PySem.Env} {s : Shared} {H : Hp} {E : XK} (bi : Bi mg) {k0 : Nat} (DPqplayed : Df P w K mg base k0 "played" Pq.sp_played) (h0 : k0 ≤ k) (hr : Room k (A.deeper (envOfC "checked_run" (defScope s_Pqchecked_run) s.heap.objs.size f cdv))) :
    ASs (cxOf CX0 P w K mg base ["value", "found"] "checked_run" (defScope s_Pqchecked_run) f cdv A outer s H E).nox [0] (defBody s_Pqchecked_run) Pq.r_checked_run_0 :=
  (ass_cons (as_set (i := 1) sc_Pqchecked_run.nd rfl (.inl rfl) (ae_df DPqplayed hr (aa_cons (ae_lend (av 0)) aa_nil))) (ass_cons (as_if (at_cmp oa_isNT (av 1) ae_non) (ass_one as_never) ass_nil) (ass_one (as_ret (av 1)))))
theorem ok_Pqchecked_run {P : Program} {w : World} {K : PySem.W.Frag} {mg : Str → Option Value} {base : Heap} {f : Addr} {fd : FuncData} {k : Nat} (F : Fun K "checked_run" "checked_run" s_Pqchecked_run f fd) (bi : Bi mg) {k0 : Nat} (DPqplayed : Df P w K mg base k0 "played" Pq.sp_played) (h0 : k0 ≤ k) : FnOk P w K mg base CX0 (k + 1) f fd ["value"] (spA K Pq.sp_checked_run) := by
  refine fnA F sc_Pqchecked_run [0] (fun ws Q h => Pq.len_checked_run h) fun cdv A outer s H E hr => ⟨_, d_Pqchecked_run bi DPqplayed h0 hr, fun ws Q h => Pq.rd_checked_run h⟩
abbrev s_Pqcounted_writes : Stmt := topS 12
theorem sc_Pqcounted_writes : FnScope ["keys", "counts", "writes", "key"] ["keys"] (defScope s_Pqcounted_writes) := ⟨rfl, rfl, rfl, by decide +kernel, rfl, by decide +kernel, by decide +kernel⟩
theorem d_Pqcounted_writes {P : Program} {w : World} {K : PySem.W.Frag} {mg : Str → Option Value} {base : Heap} {f : Addr} {k : Nat} {cdv : Value} {A : Around} {outer : List PySem.Env} {s : Shared} {H : Hp} {E : XK} (bi : Bi mg) (hr : Room k (A.deeper (envOfC "counted_writes" (defScope s_Pqcounted_writes) s.heap.objs.size f cdv))) :
    ASs (cxOf CX0 P w K mg base ["keys", "counts", "writes", "key"] "counted_writes" (defScope s_Pqcounted_writes) f cdv A outer s H E).nox [0] (defBody s_Pqcounted_writes) Pq.r_counted_writes_0 :=
  (ass_cons (as_set (i := 1) sc_Pqcounted_writes.nd rfl (.inl rfl) ae_dnew) (ass_cons (as_set (i := 2) sc_Pqcounted_writes.nd rfl (.inl rfl) (ae_lst aa_nil)) (ass_cons (as_for (ai_list (av 0)) (ag_name (i := 3) sc_Pqcounted_writes.nd rfl (.inl rfl)) (ass_cons (as_dput (u1 hr) (av 1) (av 3) (ae_op oa_add (ae_dget2 (u1 hr) (av 1) (av 3) ae_int) ae_int)) (ass_one (as_expr (ae_mut PySem.F.plainAttrs_list PySem.F.slot_list_append PySem.F.type_list_append mu_append (av 2) (aa_cons (ae_own (ae_tup (aa_cons (ae_own (av 3)) (aa_cons (ae_own (ae_dget (u1 hr) (av 1) (av 3))) aa_nil)))) aa_nil)))))) (ass_one (as_ret (av 2))))))
theorem ok_Pqcounted_writes {P : Program} {w : World} {K : PySem.W.Frag} {mg : Str → Option Value} {base : Heap} {f : Addr} {fd : FuncData} {k : Nat} (F : Fun K "counted_writes" "counted_writes" s_Pqcounted_writes f fd) (bi : Bi mg) : FnOk P w K mg base CX0 (k + 1) f fd ["keys"] (spA K Pq.sp_counted_writes) := by
  refine fnA F sc_Pqcounted_writes [0] (fun ws Q h => Pq.len_counted_writes h) fun cdv A outer s H E hr => ⟨_, d_Pqcounted_writes bi  hr, fun ws Q h => Pq.rd_counted_writes h⟩
abbrev s_Pqwrites_of : Stmt := topS 13
theorem sc_Pqwrites_of : FnScope ["run"] ["run"] (defScope s_Pqwrites_of) := ⟨rfl, rfl, rfl, by decide +kernel, rfl, by decide +kernel, by decide +kernel⟩
theorem d_Pqwrites_of {P : Program} {w : World} {K : PySem.W.Frag} {mg : Str → Option Value} {base : Heap} {f : Addr} {k : Nat} {cdv : Value} {A : Around} {outer : List PySem.Env} {s : Shared} {H : Hp} {E : XK} (bi : Bi mg) {k0 : Nat} (DPqchecked_run : Df P w K mg base k0 "checked_run" Pq.sp_checked_run) (h0 : k0 ≤ k) (hr : Room k (A.deeper (envOfC "writes_of" (defScope s_Pqwrites_of) s.heap.objs.size f cdv))) :
    ASs (cxOf CX0 P w K mg base ["run"] "writes_of" (defScope s_Pqwrites_of) f cdv A outer s H E).nox [0] (defBody s_Pqwrites_of) Pq.r_writes_of_0 :=
  (ass_one (as_ret (ae_ixO (k := 0) (ae_df DPqchecked_run hr (aa_cons (ae_lend (av 0)) aa_nil)))))
theorem ok_Pqwrites_of {P : Program} {w : World} {K : PySem.W.Frag} {mg : Str → Option Value} {base : Heap} {f : Addr} {fd : FuncData} {k : Nat} (F : Fun K "writes_of" "writes_of" s_Pqwrites_of f fd) (bi : Bi mg) {k0 : Nat} (DPqchecked_run : Df P w K mg base k0 "checked_run" Pq.sp_checked_run) (h0 : k0 ≤ k) : FnOk P w K mg base CX0 (k + 1) f fd ["run"] (spA K Pq.sp_writes_of) := by
  refine fnA F sc_Pqwrites_of [0] (fun ws Q h => Pq.len_writes_of h) fun cdv A outer s H E hr => ⟨_, d_Pqwrites_of bi DPqchecked_run h0 hr, fun ws Q h => Pq.rd_writes_of h⟩
abbrev s_Pqshown_by : Stmt := topS 14
theorem sc_Pqshown_by : FnScope ["run", "keys", "shown", "_", "writes", "number"] ["run"] (defScope s_Pqshown_by) := ⟨rfl, rfl, rfl, by decide +kernel, rfl, by decide +kernel, by decide +kernel⟩
theorem d_Pqshown_by {P : Program} {w : World} {K : PySem.W.Frag} {mg : Str → Option Value} {base : Heap} {f : Addr} {k : Nat} {cdv : Value} {A : Around} {outer : List PySem.Env} {s : Shared} {H : Hp} {E : XK} (bi : Bi mg) {k0 : Nat} (DPqchecked_run : Df P w K mg base k0 "checked_run" Pq.sp_checked_run) {k1 : Nat} (DPqcounted_writes : Df P w K mg base k1 "counted_writes" Pq.sp_counted_writes) (h0 : k0 ≤ k) (h1 : k1 ≤ k) (hr : Room k (A.deeper (envOfC "shown_by" (defScope s_Pqshown_by) s.heap.objs.size f cdv))) :
    ASs (cxOf CX0 P w K mg base ["run", "keys", "shown", "_", "writes", "number"] "shown_by" (defScope s_Pqshown_by) f cdv A outer s H E).nox [0] (defBody s_Pqshown_by) Pq.r_shown_by_0 :=
  (ass_cons (as_unpO (n := 3) (is := [1, 2, 3]) rfl (an_cons (i := 1) sc_Pqshown_by.nd rfl (.inl rfl) (an_cons (i := 2) sc_Pqshown_by.nd rfl (.inl rfl) (an_cons (i := 3) sc_Pqshown_by.nd rfl (.inl rfl) an_nil))) (ae_df DPqchecked_run hr (aa_cons (ae_lend (av 0)) aa_nil))) (ass_cons (as_set (i := 4) sc_Pqshown_by.nd rfl (.inr rfl) (ae_df DPqcounted_writes hr (aa_cons (ae_lend (av 1)) aa_nil))) (ass_one (as_ret (ae_lc (own := [("number", 5)]) rfl sc_Pqshown_by.nd (ai_list (av 2)) (blk_ok (N := ["run", "keys", "shown", "_", "writes", "number"]) (sc := defScope s_Pqshown_by) (by decide +kernel)) (fun _ _ _ _ _ => (ag_name (i := 5) sc_Pqshown_by.nd rfl (.inl rfl))) (fun _ _ _ _ _ => ats_nil) (fun _ _ _ _ _ => (ae_ix ia (av 4) (av 5))))))))
theorem ok_Pqshown_by {P : Program} {w : World} {K : PySem.W.Frag} {mg : Str → Option Value} {base : Heap} {f : Addr} {fd : FuncData} {k : Nat} (F : Fun K "shown_by" "shown_by" s_Pqshown_by f fd) (bi : Bi mg) {k0 : Nat} (DPqchecked_run : Df P w K mg base k0 "checked_run" Pq.sp_checked_run) {k1 : Nat} (DPqcounted_writes : Df P w K mg base k1 "counted_writes" Pq.sp_counted_writes) (h0 : k0 ≤ k) (h1 : k1 ≤ k) : FnOk P w K mg base CX0 (k + 1) f fd ["run"] (spA K Pq.sp_shown_by) := by
  refine fnA F sc_Pqshown_by [0] (fun ws Q h => Pq.len_shown_by h) fun cdv A outer s H E hr => ⟨_, d_Pqshown_by bi DPqchecked_run DPqcounted_writes h0 h1 hr, fun ws Q h => Pq.rd_shown_by h⟩
abbrev s_FamEsource : Stmt := topS 16
theorem sc_FamEsource : FnScope ["script", "k", "cell"] ["script", "k"] (defScope s_FamEsource) := ⟨rfl, rfl, rfl, by decide +kernel, rfl, by decide +kernel, by decide +kernel⟩
theorem d_FamEsource {P : Program} {w : World} {K : PySem.W.Frag} {mg : Str → Option Value} {base : Heap} {f : Addr} {k : Nat} {cdv : Value} {A : Around} {outer : List PySem.Env} {s : Shared} {H : Hp} {E : XK} (bi : Bi mg) (hr : Room k (A.deeper (envOfC "_law_source" (defScope s_FamEsource) s.heap.objs.size f cdv))) :
    ASs (cxOf CX0 P w K mg base ["script", "k", "cell"] "_law_source" (defScope s_FamEsource) f cdv A outer s H E).nox [] (defBody s_FamEsource) FamE.r_source_0 :=
  (ass_cons (as_set (i := 2) sc_FamEsource.nd rfl (.inl rfl) (ae_if (at_cmp oa_lt (av 1) (ae_callB ca_len rfl (bi.no _ (by decide)) rfl (aa_cons (av 0) aa_nil))) (ae_ix ia (av 0) (av 1)) ae_int)) (ass_one (as_ret (ae_lst (aa_cons (ae_own (ae_callB (ca_max rfl) rfl (bi.no _ (by decide)) rfl (aa_cons ae_int (aa_cons (ae_op oa_sub (ae_callB ca_abs rfl (bi.no _ (by decide)) rfl (aa_cons (av 2) aa_nil)) (ae_op oa_pow ae_int ae_int)) aa_nil)))) (aa_cons (ae_own (ae_op oa_add (ae_op oa_add (ae_op oa_mul (ae_op oa_mod (av 2) (ae_op oa_add (ae_op oa_pow ae_int ae_int) ae_int)) ae_int) (ae_op oa_mul ae_int (av 1))) ae_int)) (aa_cons (ae_own ae_int) aa_nil)))))))
theorem ok_FamEsource {P : Program} {w : World} {K : PySem.W.Frag} {mg : Str → Option Value} {base : Heap} {f : Addr} {fd : FuncData} {k : Nat} (F : Fun K "_law_source" "_law_source" s_FamEsource f fd) (bi : Bi mg) : FnOk P w K mg base CX0 (k + 1) f fd ["script", "k"] (spA K Lc.sp_source) := by
  refine fnA F sc_FamEsource [] (fun ws Q h => Lc.len_source h) fun cdv A outer s H E hr => ⟨_, d_FamEsource bi  hr, fun ws Q h => FamE.rd_source h⟩
abbrev s_FamEdraw : Stmt := topS 17
theorem sc_FamEdraw : FnScope ["source", "many", "found", "ground"] ["source", "many"] (defScope s_FamEdraw) := ⟨rfl, rfl, rfl, by decide +kernel, rfl, by decide +kernel, by decide +kernel⟩
theorem d_FamEdraw {P : Program} {w : World} {K : PySem.W.Frag} {mg : Str → Option Value} {base : Heap} {f : Addr} {k : Nat} {cdv : Value} {A : Around} {outer : List PySem.Env} {s : Shared} {H : Hp} {E : XK} (bi : Bi mg) (hr : Room k (A.deeper (envOfC "_law_draw" (defScope s_FamEdraw) s.heap.objs.size f cdv))) :
    ASs (cxOf CX0 P w K mg base ["source", "many", "found", "ground"] "_law_draw" (defScope s_FamEdraw) f cdv A outer s H E).nox [0] (defBody s_FamEdraw) FamE.r_draw_0 :=
  (ass_cons (as_if (at_cmp oa_gt (ae_ix ia (av 0) ae_int) ae_int) (ass_cons (as_set (i := 2) sc_FamEdraw.nd rfl (.inl rfl) (ae_op oa_mod (ae_ix ia (av 0) ae_int) (av 1))) (ass_cons (as_asg (ae_op oa_fdiv (ae_ix ia (av 0) ae_int) (av 1)) (ag_ix (av 0) ae_int)) (ass_one (as_ret (av 2))))) ass_nil) (ass_cons (as_asg (ae_op oa_add (ae_ix ia (av 0) ae_int) ae_int) (ag_ix (av 0) ae_int)) (ass_cons (as_set (i := 3) sc_FamEdraw.nd rfl (.inl rfl) (ae_op oa_mod (ae_op oa_pow (ae_op oa_add (ae_ix ia (av 0) ae_int) (ae_op oa_mul (ae_op oa_mul ae_int (ae_ix ia (av 0) ae_int)) (ae_ix ia (av 0) ae_int))) ae_int) (ae_op oa_add (ae_op oa_pow ae_int ae_int) ae_int))) (ass_cons (as_set (i := 3) sc_FamEdraw.nd rfl (.inl rfl) (ae_op oa_mod (ae_op oa_pow (ae_op oa_add (av 3) (ae_op oa_mul ae_int (ae_ix ia (av 0) ae_int))) ae_int) (ae_op oa_add (ae_op oa_pow ae_int ae_int) ae_int))) (ass_one (as_ret (ae_op oa_mod (ae_op oa_fdiv (av 3) ae_int) (av 1))))))))
theorem ok_FamEdraw {P : Program} {w : World} {K : PySem.W.Frag} {mg : Str → Option Value} {base : Heap} {f : Addr} {fd : FuncData} {k : Nat} (F : Fun K "_law_draw" "_law_draw" s_FamEdraw f fd) (bi : Bi mg) : FnOk P w K mg base CX0 (k + 1) f fd ["source", "many"] (spA K Lc.sp_draw) := by
  refine fnA F sc_FamEdraw [0] (fun ws Q h => Lc.len_draw h) fun cdv A outer s H E hr => ⟨_, d_FamEdraw bi  hr, fun ws Q h => FamE.rd_draw h⟩
abbrev s_FamEmixed : Stmt := topS 18
theorem sc_FamEmixed : FnScope ["source", "items", "left", "k"] ["source", "items"] (defScope s_FamEmixed) := ⟨rfl, rfl, rfl, by decide +kernel, rfl, by decide +kernel, by decide +kernel⟩
theorem d_FamEmixed {P : Program} {w : World} {K : PySem.W.Frag} {mg : Str → Option Value} {base : Heap} {f : Addr} {k : Nat} {cdv : Value} {A : Around} {outer : List PySem.Env} {s : Shared} {H : Hp} {E : XK} (bi : Bi mg) {k0 : Nat} (DFamEdraw : Df P w K mg base k0 "_law_draw" Lc.sp_draw) (h0 : k0 ≤ k) (hr : Room k (A.deeper (envOfC "_law_mixed" (defScope s_FamEmixed) s.heap.objs.size f cdv))) :
    ASs (cxOf CX0 P w K mg base ["source", "items", "left", "k"] "_law_mixed" (defScope s_FamEmixed) f cdv A outer s H E).nox [0, 1] (defBody s_FamEmixed) FamE.r_mixed_0 :=
  (ass_cons (as_set (i := 2) sc_FamEmixed.nd rfl (.inr rfl) (ae_callTy ca_list rfl (bi.no _ (by decide)) rfl (aa_cons (av 1) aa_nil))) (ass_one (as_ret (ae_lc (own := [("k", 3)]) rfl sc_FamEmixed.nd (ai_range1 rfl (bi.no _ (by decide)) (aa_cons (ae_callB ca_len rfl (bi.no _ (by decide)) rfl (aa_cons (av 1) aa_nil)) aa_nil)) (blk_ok (N := ["source", "items", "left", "k"]) (sc := defScope s_FamEmixed) (by decide +kernel)) (fun _ _ _ _ _ => (ag_name (i := 3) sc_FamEmixed.nd rfl (.inl rfl))) (fun _ _ _ _ _ => ats_nil) (fun _ _ _ _ _ => (ae_mut PySem.F.plainAttrs_list PySem.F.slot_list_pop PySem.F.type_list_pop mu_popAt (av 2) (aa_cons (ae_own (ae_df DFamEdraw hr (aa_cons (ae_lend (av 0)) (aa_cons (ae_callB ca_len rfl (bi.no _ (by decide)) rfl (aa_cons (av 2) aa_nil)) aa_nil)))) aa_nil)))))))
theorem ok_FamEmixed {P : Program} {w : World} {K : PySem.W.Frag} {mg : Str → Option Value} {base : Heap} {f : Addr} {fd : FuncData} {k : Nat} (F : Fun K "_law_mixed" "_law_mixed" s_FamEmixed f fd) (bi : Bi mg) {k0 : Nat} (DFamEdraw : Df P w K mg base k0 "_law_draw" Lc.sp_draw) (h0 : k0 ≤ k) : FnOk P w K mg base CX0 (k + 1) f fd ["source", "items"] (spA K Lc.sp_mixed) := by
  refine fnA F sc_FamEmixed [0, 1] (fun ws Q h => Lc.len_mixed h) fun cdv A outer s H E hr => ⟨_, d_FamEmixed bi DFamEdraw h0 hr, fun ws Q h => FamE.rd_mixed h⟩
abbrev s_FamEkeys : Stmt := topS 19
theorem sc_FamEkeys : FnScope ["source", "most", "pool"] ["source", "most"] (defScope s_FamEkeys) := ⟨rfl, rfl, rfl, by decide +kernel, rfl, by decide +kernel, by decide +kernel⟩
theorem d_FamEkeys {P : Program} {w : World} {K : PySem.W.Frag} {mg : Str → Option Value} {base : Heap} {f : Addr} {k : Nat} {cdv : Value} {A : Around} {outer : List PySem.Env} {s : Shared} {H : Hp} {E : XK} (bi : Bi mg) {k0 : Nat} (DFamEmixed : Df P w K mg base k0 "_law_mixed" Lc.sp_mixed) {k1 : Nat} (DFamEdraw : Df P w K mg base k1 "_law_draw" Lc.sp_draw) (h0 : k0 ≤ k) (h1 : k1 ≤ k) (hr : Room k (A.deeper (envOfC "_law_keys" (defScope s_FamEkeys) s.heap.objs.size f cdv))) :
    ASs (cxOf CX0 P w K mg base ["source", "most", "pool"] "_law_keys" (defScope s_FamEkeys) f cdv A outer s H E).nox [0] (defBody s_FamEkeys) FamE.r_keys_0 :=
  (ass_cons (as_set (i := 2) sc_FamEkeys.nd rfl (.inl rfl) (ae_op oa_add (ae_callTy (ca_listS rfl) rfl (bi.no _ (by decide)) rfl (aa_cons ae_str aa_nil)) (ae_lst (aa_cons (ae_own ae_str) (aa_cons (ae_own ae_str) (aa_cons (ae_own ae_str) (aa_cons (ae_own ae_str) (aa_cons (ae_own ae_str) (aa_cons (ae_own ae_str) (aa_cons (ae_own ae_str) aa_nil)))))))))) (ass_cons (as_set (i := 2) sc_FamEkeys.nd rfl (.inl rfl) (ae_op oa_add (av 2) (ae_lst (aa_cons (ae_own ae_str) (aa_cons (ae_own ae_str) (aa_cons (ae_own ae_str) (aa_cons (ae_own ae_str) (aa_cons (ae_own ae_str) (aa_cons (ae_own ae_str) (aa_cons (ae_own ae_str) aa_nil)))))))))) (ass_one (as_ret (ae_slL (ae_df DFamEmixed hr (aa_cons (ae_lend (av 0)) (aa_cons (ae_lend (av 2)) aa_nil))) ao_none (ao_some (ae_op oa_add ae_int (ae_df DFamEdraw hr (aa_cons (ae_lend (av 0)) (aa_cons (ae_lend (av 1)) aa_nil))))))))))
theorem ok_FamEkeys {P : Program} {w : World} {K : PySem.W.Frag} {mg : Str → Option Value} {base : Heap} {f : Addr} {fd : FuncData} {k : Nat} (F : Fun K "_law_keys" "_law_keys" s_FamEkeys f fd) (bi : Bi mg) {k0 : Nat} (DFamEmixed : Df P w K mg base k0 "_law_mixed" Lc.sp_mixed) {k1 : Nat} (DFamEdraw : Df P w K mg base k1 "_law_draw" Lc.sp_draw) (h0 : k0 ≤ k) (h1 : k1 ≤ k) : FnOk P w K mg base CX0 (k + 1) f fd ["source", "most"] (spA K FamE.sp_keys) := by
  refine fnA F sc_FamEkeys [0] (fun ws Q h => FamE.len_keys h) fun cdv A outer s H E hr => ⟨_, d_FamEkeys bi DFamEmixed DFamEdraw h0 h1 hr, fun ws Q h => FamE.rd_keys h⟩
abbrev s_FamEdrawn : Stmt := topS 20
theorem sc_FamEdrawn : FnScope ["source", "keys", "many", "found", "waiting", "lean", "turn", "key"] ["source", "keys", "many"] (defScope s_FamEdrawn) := ⟨rfl, rfl, rfl, by decide +kernel, rfl, by decide +kernel, by decide +kernel⟩
theorem d_FamEdrawn {P : Program} {w : World} {K : PySem.W.Frag} {mg : Str → Option Value} {base : Heap} {f : Addr} {k : Nat} {cdv : Value} {A : Around} {outer : List PySem.Env} {s : Shared} {H : Hp} {E : XK} (bi : Bi mg) {k0 : Nat} (DFamEdraw : Df P w K mg base k0 "_law_draw" Lc.sp_draw) (h0 : k0 ≤ k) (hr : Room k (A.deeper (envOfC "_law_drawn_run" (defScope s_FamEdrawn) s.heap.objs.size f cdv))) :
    ASs (cxOf CX0 P w K mg base ["source", "keys", "many", "found", "waiting", "lean", "turn", "key"] "_law_drawn_run" (defScope s_FamEdrawn) f cdv A outer s H E).nox [0, 1] (defBody s_FamEdrawn) FamE.r_drawn_0 :=
  (ass_cons (as_par3 (i := 3) (j := 4) (l := 5) rfl sc_FamEdrawn.nd rfl rfl rfl (by decide) (by decide) (by decide) rfl rfl rfl (aa_cons (ae_own (ae_lst aa_nil)) (aa_cons (ae_own (ae_lst aa_nil)) (aa_cons (ae_own (ae_ix ia (ae_lst (aa_cons (ae_own ae_int) (aa_cons (ae_own ae_int) (aa_cons (ae_own ae_int) aa_nil)))) (ae_df DFamEdraw hr (aa_cons (ae_lend (av 0)) (aa_cons ae_int aa_nil))))) aa_nil))) rfl) (ass_cons (as_for (ai_range1 rfl (bi.no _ (by decide)) (aa_cons (av 2) aa_nil)) (ag_name (i := 6) sc_FamEdrawn.nd rfl (.inl rfl)) (ass_one (as_if (AW.at (aw_and (at_cmp (oa_ne hr.units) (av 4) (ae_lst aa_nil)) (aw_and1 (at_cmp oa_gt (ae_df DFamEdraw hr (aa_cons (ae_lend (av 0)) (aa_cons (ae_op oa_add (av 5) ae_int) aa_nil))) ae_int)))) (ass_cons (as_expr (ae_mut PySem.F.plainAttrs_list PySem.F.slot_list_pop PySem.F.type_list_pop mu_pop0 (av 4) (aa_cons (ae_own ae_int) aa_nil))) (ass_one (as_expr (ae_mut PySem.F.plainAttrs_list PySem.F.slot_list_append PySem.F.type_list_append mu_append (av 3) (aa_cons (ae_own (ae_tup (aa_cons (ae_own ae_str) aa_nil))) aa_nil))))) (ass_cons (as_set (i := 7) sc_FamEdrawn.nd rfl (.inl rfl) (ae_ix ia (av 1) (ae_df DFamEdraw hr (aa_cons (ae_lend (av 0)) (aa_cons (ae_callB ca_len rfl (bi.no _ (by decide)) rfl (aa_cons (av 1) aa_nil)) aa_nil))))) (ass_cons (as_if (AW.at (aw_and (at_cmp (oa_ne hr.units) (av 4) (ae_lst aa_nil)) (aw_and1 (at_cmp (oa_eq hr.units) (ae_df DFamEdraw hr (aa_cons (ae_lend (av 0)) (aa_cons ae_int aa_nil))) ae_int)))) (ass_one (as_set (i := 7) sc_FamEdrawn.nd rfl (.inl rfl) (ae_ix ia (av 4) ae_int))) ass_nil) (ass_cons (as_expr (ae_mut PySem.F.plainAttrs_list PySem.F.slot_list_append PySem.F.type_list_append mu_append (av 3) (aa_cons (ae_own (ae_tup (aa_cons (ae_own ae_str) (aa_cons (ae_own (av 7)) aa_nil)))) aa_nil))) (ass_one (as_if (at_cmp oa_notIn (av 7) (av 4)) (ass_one (as_expr (ae_mut PySem.F.plainAttrs_list PySem.F.slot_list_append PySem.F.type_list_append mu_append (av 4) (aa_cons (ae_own (av 7)) aa_nil)))) ass_nil)))))))) (ass_one (as_ret (av 3)))))
theorem ok_FamEdrawn {P : Program} {w : World} {K : PySem.W.Frag} {mg : Str → Option Value} {base : Heap} {f : Addr} {fd : FuncData} {k : Nat} (F : Fun K "_law_drawn_run" "_law_drawn_run" s_FamEdrawn f fd) (bi : Bi mg) {k0 : Nat} (DFamEdraw : Df P w K mg base k0 "_law_draw" Lc.sp_draw) (h0 : k0 ≤ k) : FnOk P w K mg base CX0 (k + 1) f fd ["source", "keys", "many"] (spA K FamE.sp_drawn) := by
  refine fnA F sc_FamEdrawn [0, 1] (fun ws Q h => FamE.len_drawn h) fun cdv A outer s H E hr => ⟨_, d_FamEdrawn bi DFamEdraw h0 hr, fun ws Q h => FamE.rd_drawn h⟩
abbrev s_Law05played : Stmt := topS 21
theorem sc_Law05played : FnScope ["events", "wrote", "shown", "waiting", "event", "key"] ["events"] (defScope s_Law05played) := ⟨rfl, rfl, rfl, by decide +kernel, rfl, by decide +kernel, by decide +kernel⟩
theorem d_Law05played {P : Program} {w : World} {K : PySem.W.Frag} {mg : Str → Option Value} {base : Heap} {f : Addr} {k : Nat} {cdv : Value} {A : Around} {outer : List PySem.Env} {s : Shared} {H : Hp} {E : XK} (bi : Bi mg) (hr : Room k (A.deeper (envOfC "_law_played" (defScope s_Law05played) s.heap.objs.size f cdv))) :
    ASs (cxOf CX0 P w K mg base ["events", "wrote", "shown", "waiting", "event", "key"] "_law_played" (defScope s_Law05played) f cdv A outer s H E).nox [0] (defBody s_Law05played) Law05.r_played_0 :=
  (ass_cons (as_parT (n := 3) (is := [1, 2, 3]) rfl (an_cons (i := 1) sc_Law05played.nd rfl (.inr rfl) (an_cons (i := 2) sc_Law05played.nd rfl (.inl rfl) (an_cons (i := 3) sc_Law05played.nd rfl (.inl rfl) an_nil))) (aa_cons (ae_own (ae_lst aa_nil)) (aa_cons (ae_own (ae_lst aa_nil)) (aa_cons (ae_own (ae_lst aa_nil)) aa_nil)))) (ass_cons (as_for (ai_list (av 0)) (ag_name (i := 4) sc_Law05played.nd rfl (.inl rfl)) (ass_one (as_if (at_cmp (oa_eq hr.units) (av 4) (ae_tup (aa_cons (ae_own ae_str) aa_nil))) (ass_cons (as_set (i := 5) sc_Law05played.nd rfl (.inl rfl) (ae_mut PySem.F.plainAttrs_list PySem.F.slot_list_pop PySem.F.type_list_pop mu_pop0 (av 3) (aa_cons (ae_own ae_int) aa_nil))) (ass_one (as_expr (ae_mut PySem.F.plainAttrs_list PySem.F.slot_list_append PySem.F.type_list_append mu_append (av 2) (aa_cons (ae_own (ae_tup (aa_cons (ae_own (av 5)) (aa_cons (ae_own (ae_rd PySem.F.plainAttrs_list PySem.F.slot_list_count PySem.F.type_list_count rd_count (av 1) (aa_cons (av 5) aa_nil))) aa_nil)))) aa_nil))))) (ass_cons (as_expr (ae_mut PySem.F.plainAttrs_list PySem.F.slot_list_append PySem.F.type_list_append mu_append (av 1) (aa_cons (ae_own (ae_ix ia (av 4) ae_int)) aa_nil))) (ass_one (as_if (at_cmp oa_notIn (ae_ix ia (av 4) ae_int) (av 3)) (ass_one (as_expr (ae_mut PySem.F.plainAttrs_list PySem.F.slot_list_append PySem.F.type_list_append mu_append (av 3) (aa_cons (ae_own (ae_ix ia (av 4) ae_int)) aa_nil)))) ass_nil)))))) (ass_one (as_ret (ae_tup (aa_cons (ae_frz (av 1)) (aa_cons (ae_frz (av 2)) (aa_cons (ae_frz (ae_lc (own := [("key", 5)]) rfl sc_Law05played.nd (ai_list (av 3)) (blk_ok (N := ["events", "wrote", "shown", "waiting", "event", "key"]) (sc := defScope s_Law05played) (by decide +kernel)) (fun _ _ _ _ _ => (ag_name (i := 5) sc_Law05played.nd rfl (.inl rfl))) (fun _ _ _ _ _ => ats_nil) (fun _ _ _ _ _ => (ae_tup (aa_cons (ae_own (av 5)) (aa_cons (ae_own (ae_rd PySem.F.plainAttrs_list PySem.F.slot_list_count PySem.F.type_list_count rd_count (av 1) (aa_cons (av 5) aa_nil))) aa_nil)))))) aa_nil))))))))
theorem ok_Law05played {P : Program} {w : World} {K : PySem.W.Frag} {mg : Str → Option Value} {base : Heap} {f : Addr} {fd : FuncData} {k : Nat} (F : Fun K "_law_played" "_law_played" s_Law05played f fd) (bi : Bi mg) : FnOk P w K mg base CX0 (k + 1) f fd ["events"] (spA K Law05.sp_played) := by
  refine fnA F sc_Law05played [0] (fun ws Q h => Law05.len_played h) fun cdv A outer s H E hr => ⟨_, d_Law05played bi  hr, fun ws Q h => Law05.rd_played h⟩
abbrev s_Law05right : Stmt := topS 22
theorem sc_Law05right : FnScope ["run", "before", "due", "turn", "found"] ["run"] (defScope s_Law05right) := ⟨rfl, rfl, rfl, by decide +kernel, rfl, by decide +kernel, by decide +kernel⟩
theorem d_Law05right {P : Program} {w : World} {K : PySem.W.Frag} {mg : Str → Option Value} {base : Heap} {f : Addr} {k : Nat} {cdv : Value} {A : Around} {outer : List PySem.Env} {s : Shared} {H : Hp} {E : XK} (bi : Bi mg) {k0 : Nat} (DLaw05played : Df P w K mg base k0 "_law_played" Law05.sp_played) {k1 : Nat} (DPqwrites_of : Df P w K mg base k1 "writes_of" Pq.sp_writes_of) {k2 : Nat} (DPqshown_by : Df P w K mg base k2 "shown_by" Pq.sp_shown_by) (h0 : k0 ≤ k) (h1 : k1 ≤ k) (h2 : k2 ≤ k) (hG : (A.deeper (envOfC "_law_right" (defScope s_Law05right) s.heap.objs.size f cdv)).guards = some []) (hr : Room k (A.deeper (envOfC "_law_right" (defScope s_Law05right) s.heap.objs.size f cdv))) :
    ASs (cxOf CX0 P w K mg base ["run", "before", "due", "turn", "found"] "_law_right" (defScope s_Law05right) f cdv A outer s H E).nox [0] (defBody s_Law05right) Law05.r_right_0 :=
  (ass_cons (as_par (i := 1) (j := 2) rfl sc_Law05right.nd rfl rfl (by decide) rfl rfl (aa_cons (ae_own (ae_callB (ca_repr hG (u65 hr)) rfl (bi.no _ (by decide)) rfl (aa_cons (av 0) aa_nil))) (aa_cons (ae_own (ae_df DLaw05played hr (aa_cons (ae_lend (av 0)) aa_nil))) aa_nil)) rfl) (ass_cons (as_for (ai_range1 rfl (bi.no _ (by decide)) (aa_cons ae_int aa_nil)) (ag_name (i := 3) sc_Law05right.nd rfl (.inl rfl)) (ass_cons (as_set (i := 4) sc_Law05right.nd rfl (.inl rfl) (ae_lst (aa_cons (ae_own (ae_df DPqwrites_of hr (aa_cons (ae_lend (av 0)) aa_nil))) (aa_cons (ae_own (ae_df DPqshown_by hr (aa_cons (ae_lend (av 0)) aa_nil))) aa_nil)))) (ass_cons (as_if (AW.at (aw_or (at_cmp (oa_ne hr.units) (ae_callB (ca_repr hG (u65 hr)) rfl (bi.no _ (by decide)) rfl (aa_cons (av 4) aa_nil)) (ae_callB (ca_repr hG (u65 hr)) rfl (bi.no _ (by decide)) rfl (aa_cons (ae_lst (aa_cons (ae_own (ae_ix ia (av 2) ae_int)) (aa_cons (ae_own (ae_ix ia (av 2) ae_int)) aa_nil))) aa_nil))) (aw_or1 (at_cmp (oa_ne hr.units) (ae_callB (ca_repr hG (u65 hr)) rfl (bi.no _ (by decide)) rfl (aa_cons (av 0) aa_nil)) (av 1))))) (ass_one (as_ret ae_bl)) ass_nil) (ass_cons (as_expr (ae_grow (i := 4) (k := 0) nw_str)) (ass_one (as_expr (ae_grow (i := 4) (k := 1) nw_strInt))))))) (ass_one (as_ret ae_bl))))
theorem ok_Law05right {P : Program} {w : World} {K : PySem.W.Frag} {mg : Str → Option Value} {base : Heap} {f : Addr} {fd : FuncData} {k : Nat} (F : Fun K "_law_right" "_law_right" s_Law05right f fd) (bi : Bi mg) {k0 : Nat} (DLaw05played : Df P w K mg base k0 "_law_played" Law05.sp_played) {k1 : Nat} (DPqwrites_of : Df P w K mg base k1 "writes_of" Pq.sp_writes_of) {k2 : Nat} (DPqshown_by : Df P w K mg base k2 "shown_by" Pq.sp_shown_by) (h0 : k0 ≤ k) (h1 : k1 ≤ k) (h2 : k2 ≤ k) : FnG P w K mg base (k + 1) f fd ["run"] (spA K Law05.sp_right) := by
  refine fnAG F sc_Law05right [0] (fun ws Q h => Law05.len_right h) fun cdv A outer s H E hG hr => ⟨_, d_Law05right bi DLaw05played DPqwrites_of DPqshown_by h0 h1 h2 hG hr, fun ws Q h => Law05.rd_right h⟩
abbrev s_Law05law : Stmt := topS 23
theorem sc_Law05law : FnScope ["script", "k", "source", "most", "run", "keys", "number"] ["script"] (defScope s_Law05law) := ⟨rfl, rfl, rfl, by decide +kernel, rfl, by decide +kernel, by decide +kernel⟩
theorem d_Law05law {P : Program} {w : World} {K : PySem.W.Frag} {mg : Str → Option Value} {base : Heap} {f : Addr} {k : Nat} {cdv : Value} {A : Around} {outer : List PySem.Env} {s : Shared} {H : Hp} {E : XK} (bi : Bi mg) {k0 : Nat} (DFamEsource : Df P w K mg base k0 "_law_source" Lc.sp_source) {k1 : Nat} (DFamEdrawn : Df P w K mg base k1 "_law_drawn_run" FamE.sp_drawn) {k2 : Nat} (DPqwrites_of : Df P w K mg base k2 "writes_of" Pq.sp_writes_of) {k3 : Nat} (DPqshown_by : Df P w K mg base k3 "shown_by" Pq.sp_shown_by) {k4 : Nat} (DFamEkeys : Df P w K mg base k4 "_law_keys" FamE.sp_keys) {k5 : Nat} (DFamEdraw : Df P w K mg base k5 "_law_draw" Lc.sp_draw) {k6 : Nat} (DLaw05right : DfG P w K mg base k6 "_law_right" Law05.sp_right) (h0 : k0 ≤ k) (h1 : k1 ≤ k) (h2 : k2 ≤ k) (h3 : k3 ≤ k) (h4 : k4 ≤ k) (h5 : k5 ≤ k) (h6 : k6 ≤ k) (hG : (A.deeper (envOfC "law" (defScope s_Law05law) s.heap.objs.size f cdv)).guards = some []) (hr : Room k (A.deeper (envOfC "law" (defScope s_Law05law) s.heap.objs.size f cdv))) :
    ASs (cxOf CX0 P w K mg base ["script", "k", "source", "most", "run", "keys", "number"] "law" (defScope s_Law05law) f cdv A outer s H E).nox [0] (defBody s_Law05law) Law05.r_law_0 :=
  (ass_cons (as_for (ai_range1 rfl (bi.no _ (by decide)) (aa_cons (ae_callB (ca_max rfl) rfl (bi.no _ (by decide)) rfl (aa_cons ae_int (aa_cons (ae_callB (ca_min rfl) rfl (bi.no _ (by decide)) rfl (aa_cons ae_int (aa_cons (ae_callB ca_len rfl (bi.no _ (by decide)) rfl (aa_cons (av 0) aa_nil)) aa_nil))) aa_nil))) aa_nil)) (ag_name (i := 1) sc_Law05law.nd rfl (.inl rfl)) (ass_cons (as_set (i := 2) sc_Law05law.nd rfl (.inl rfl) (ae_df DFamEsource hr (aa_cons (ae_lend (av 0)) (aa_cons (ae_lend (av 1)) aa_nil)))) (ass_cons (as_for (ai_list (ae_lst (aa_cons (ae_own ae_int) (aa_cons (ae_own ae_int) (aa_cons (ae_own ae_int) aa_nil))))) (ag_name (i := 3) sc_Law05law.nd rfl (.inl rfl)) (ass_cons (as_set (i := 4) sc_Law05law.nd rfl (.inl rfl) (ae_df DFamEdrawn hr (aa_late (aa_cons (av 2) (aa_cons (ae_df DFamEkeys hr (aa_cons (ae_lend (av 2)) (aa_cons (ae_lend (av 3)) aa_nil))) (aa_cons (ae_df DFamEdraw hr (aa_cons (ae_lend (av 2)) (aa_cons ae_int aa_nil))) aa_nil)))))) (ass_cons (as_if (at_not (at_val (ae_dfG DLaw05right hG hr (aa_cons (ae_lend (av 4)) aa_nil)))) (ass_one (as_ret ae_bl)) ass_nil) (ass_cons (as_expr (ae_mut PySem.F.plainAttrs_list PySem.F.slot_list_append PySem.F.type_list_append mu_append (av 4) (aa_cons (ae_frz (ae_tup (aa_cons (ae_own ae_str) (aa_cons (ae_own ae_str) aa_nil)))) aa_nil))) (ass_cons (as_if (at_not (at_val (ae_dfG DLaw05right hG hr (aa_cons (ae_lend (av 4)) aa_nil)))) (ass_one (as_ret ae_bl)) ass_nil) (ass_cons (as_expr (ae_mut PySem.F.plainAttrs_list PySem.F.slot_list_append PySem.F.type_list_append mu_append (av 4) (aa_cons (ae_frz (ae_tup (aa_cons (ae_own ae_str) aa_nil))) aa_nil))) (ass_one (as_if (at_not (at_val (ae_dfG DLaw05right hG hr (aa_cons (ae_lend (av 4)) aa_nil)))) (ass_one (as_ret ae_bl)) ass_nil)))))))) (ass_one (as_if (at_cmp (oa_eq hr.units) (av 1) ae_int) (ass_one (as_for (ai_list (ae_lst (aa_cons (ae_frz (ae_df DFamEkeys hr (aa_cons (ae_lend (av 2)) (aa_cons ae_int aa_nil)))) (aa_cons (ae_frz (ae_lc (own := [("number", 6)]) rfl sc_Law05law.nd (ai_range1 rfl (bi.no _ (by decide)) (aa_cons ae_int aa_nil)) (blk_ok (N := ["script", "k", "source", "most", "run", "keys", "number"]) (sc := defScope s_Law05law) (by decide +kernel)) (fun _ _ _ _ _ => (ag_name (i := 6) sc_Law05law.nd rfl (.inl rfl))) (fun _ _ _ _ _ => ats_nil) (fun _ _ _ _ _ => (ae_op oa_add ae_str (ae_callTy ca_str rfl (bi.no _ (by decide)) rfl (aa_cons (av 6) aa_nil)))))) aa_nil)))) (ag_name (i := 5) sc_Law05law.nd rfl (.inl rfl)) (ass_one (as_if (at_not (at_val (ae_dfG DLaw05right hG hr (aa_cons (ae_df DFamEdrawn hr (aa_cons (ae_lend (av 2)) (aa_cons (ae_lend (av 5)) (aa_cons ae_int aa_nil)))) aa_nil)))) (ass_one (as_ret ae_bl)) ass_nil)))) ass_nil))))) (ass_one (as_ret (ae_and (ae_cmp (oa_eq hr.units) (ae_df DPqwrites_of hr (aa_cons (ae_lst aa_nil) aa_nil)) (ae_lst aa_nil)) (ae_one (ae_cmp (oa_eq hr.units) (ae_df DPqshown_by hr (aa_cons (ae_lst (aa_cons (ae_frz (ae_tup (aa_cons (ae_own ae_str) (aa_cons (ae_own ae_str) aa_nil)))) (aa_cons (ae_frz (ae_tup (aa_cons (ae_own ae_str) (aa_cons (ae_own ae_str) aa_nil)))) (aa_cons (ae_frz (ae_tup (aa_cons (ae_own ae_str) aa_nil))) aa_nil)))) aa_nil)) (ae_lst (aa_cons (ae_frz (ae_tup (aa_cons (ae_own ae_str) (aa_cons (ae_own ae_int) aa_nil)))) aa_nil))))))))
theorem ok_Law05law {P : Program} {w : World} {K : PySem.W.Frag} {mg : Str → Option Value} {base : Heap} {f : Addr} {fd : FuncData} {k : Nat} (F : Fun K "law" "law" s_Law05law f fd) (bi : Bi mg) {k0 : Nat} (DFamEsource : Df P w K mg base k0 "_law_source" Lc.sp_source) {k1 : Nat} (DFamEdrawn : Df P w K mg base k1 "_law_drawn_run" FamE.sp_drawn) {k2 : Nat} (DPqwrites_of : Df P w K mg base k2 "writes_of" Pq.sp_writes_of) {k3 : Nat} (DPqshown_by : Df P w K mg base k3 "shown_by" Pq.sp_shown_by) {k4 : Nat} (DFamEkeys : Df P w K mg base k4 "_law_keys" FamE.sp_keys) {k5 : Nat} (DFamEdraw : Df P w K mg base k5 "_law_draw" Lc.sp_draw) {k6 : Nat} (DLaw05right : DfG P w K mg base k6 "_law_right" Law05.sp_right) (h0 : k0 ≤ k) (h1 : k1 ≤ k) (h2 : k2 ≤ k) (h3 : k3 ≤ k) (h4 : k4 ≤ k) (h5 : k5 ≤ k) (h6 : k6 ≤ k) : FnG P w K mg base (k + 1) f fd ["script"] (spA K Law05.sp_law) := by
  refine fnAG F sc_Law05law [0] (fun ws Q h => Law05.len_law h) fun cdv A outer s H E hG hr => ⟨_, d_Law05law bi DFamEsource DFamEdrawn DPqwrites_of DPqshown_by DFamEkeys DFamEdraw DLaw05right h0 h1 h2 h3 h4 h5 h6 hG hr, fun ws Q h => Law05.rd_law h⟩
theorem all_mk {l : PySem.W.OpenLaw} {w : World} {K : PySem.W.Frag} {h : Heap} {mg : Str → Option Value} {fa f0 f1 f2 f3 f4 f5 f6 f7 f8 f9 f10 f11 f12 f13 f14 f15 : Addr} (X : K.In h) (G : h.Ns mainGlobals mg) (hfa : mg "law" = some (.ref fa))
    {od0 an0 od1 an1 od2 an2 od3 an3 od4 an4 od5 an5 od6 an6 od7 an7 od8 an8 od9 an9 od10 an10 od11 an11 od12 an12 od13 an13 od14 an14 od15 an15 : Option Addr} {sl0 sl1 sl2 sl3 sl4 sl5 sl6 sl7 sl8 sl9 sl10 sl11 sl12 sl13 sl14 sl15 : Array (Option Value)} {oc0 kV0 dc0 pm0 cd0 ct0 oc1 kV1 dc1 pm1 cd1 ct1 oc2 kV2 dc2 pm2 cd2 ct2 oc3 kV3 dc3 pm3 cd3 ct3 oc4 kV4 dc4 pm4 cd4 ct4 oc5 kV5 dc5 pm5 cd5 ct5 oc6 kV6 dc6 pm6 cd6 ct6 oc7 kV7 dc7 pm7 cd7 ct7 oc8 kV8 dc8 pm8 cd8 ct8 oc9 kV9 dc9 pm9 cd9 ct9 oc10 kV10 dc10 pm10 cd10 ct10 oc11 kV11 dc11 pm11 cd11 ct11 oc12 kV12 dc12 pm12 cd12 ct12 oc13 kV13 dc13 pm13 cd13 ct13 oc14 kV14 dc14 pm14 cd14 ct14 oc15 kV15 dc15 pm15 cd15 ct15 : Value} {tLONGEST_KEY : Tok}
    (a0 : PySem.W.nsIn K mainGlobals "play" = some (some (.ref f0))) (l0 : K.lookup f0 = some ⟨oc0, od0, .func (PySem.W.fnOf "play" "play" (defArgs s_Pqplay) (defBody s_Pqplay) (defScope s_Pqplay) .none kV0 dc0 pm0 an0 cd0 ct0), sl0⟩) (c0 : PySem.W.codeIn K cd0 "play" = true) (k0 : PySem.W.keepIn K (.ref f0) = true)
    (a1 : PySem.W.nsIn K mainGlobals "are_keys" = some (some (.ref f1))) (l1 : K.lookup f1 = some ⟨oc1, od1, .func (PySem.W.fnOf "are_keys" "are_keys" (defArgs s_Pkare_keys) (defBody s_Pkare_keys) (defScope s_Pkare_keys) .none kV1 dc1 pm1 an1 cd1 ct1), sl1⟩) (c1 : PySem.W.codeIn K cd1 "are_keys" = true) (k1 : PySem.W.keepIn K (.ref f1) = true)
    (a2 : PySem.W.nsIn K mainGlobals "is_events" = some (some (.ref f2))) (l2 : K.lookup f2 = some ⟨oc2, od2, .func (PySem.W.fnOf "is_events" "is_events" (defArgs s_Pkis_events) (defBody s_Pkis_events) (defScope s_Pkis_events) .none kV2 dc2 pm2 an2 cd2 ct2), sl2⟩) (c2 : PySem.W.codeIn K cd2 "is_events" = true) (k2 : PySem.W.keepIn K (.ref f2) = true)
    (a3 : PySem.W.nsIn K mainGlobals "played" = some (some (.ref f3))) (l3 : K.lookup f3 = some ⟨oc3, od3, .func (PySem.W.fnOf "played" "played" (defArgs s_Pqplayed) (defBody s_Pqplayed) (defScope s_Pqplayed) .none kV3 dc3 pm3 an3 cd3 ct3), sl3⟩) (c3 : PySem.W.codeIn K cd3 "played" = true) (k3 : PySem.W.keepIn K (.ref f3) = true)
    (a4 : PySem.W.nsIn K mainGlobals "checked_run" = some (some (.ref f4))) (l4 : K.lookup f4 = some ⟨oc4, od4, .func (PySem.W.fnOf "checked_run" "checked_run" (defArgs s_Pqchecked_run) (defBody s_Pqchecked_run) (defScope s_Pqchecked_run) .none kV4 dc4 pm4 an4 cd4 ct4), sl4⟩) (c4 : PySem.W.codeIn K cd4 "checked_run" = true) (k4 : PySem.W.keepIn K (.ref f4) = true)
    (a5 : PySem.W.nsIn K mainGlobals "counted_writes" = some (some (.ref f5))) (l5 : K.lookup f5 = some ⟨oc5, od5, .func (PySem.W.fnOf "counted_writes" "counted_writes" (defArgs s_Pqcounted_writes) (defBody s_Pqcounted_writes) (defScope s_Pqcounted_writes) .none kV5 dc5 pm5 an5 cd5 ct5), sl5⟩) (c5 : PySem.W.codeIn K cd5 "counted_writes" = true) (k5 : PySem.W.keepIn K (.ref f5) = true)
    (a6 : PySem.W.nsIn K mainGlobals "writes_of" = some (some (.ref f6))) (l6 : K.lookup f6 = some ⟨oc6, od6, .func (PySem.W.fnOf "writes_of" "writes_of" (defArgs s_Pqwrites_of) (defBody s_Pqwrites_of) (defScope s_Pqwrites_of) .none kV6 dc6 pm6 an6 cd6 ct6), sl6⟩) (c6 : PySem.W.codeIn K cd6 "writes_of" = true) (k6 : PySem.W.keepIn K (.ref f6) = true)
    (a7 : PySem.W.nsIn K mainGlobals "shown_by" = some (some (.ref f7))) (l7 : K.lookup f7 = some ⟨oc7, od7, .func (PySem.W.fnOf "shown_by" "shown_by" (defArgs s_Pqshown_by) (defBody s_Pqshown_by) (defScope s_Pqshown_by) .none kV7 dc7 pm7 an7 cd7 ct7), sl7⟩) (c7 : PySem.W.codeIn K cd7 "shown_by" = true) (k7 : PySem.W.keepIn K (.ref f7) = true)
    (a8 : PySem.W.nsIn K mainGlobals "_law_source" = some (some (.ref f8))) (l8 : K.lookup f8 = some ⟨oc8, od8, .func (PySem.W.fnOf "_law_source" "_law_source" (defArgs s_FamEsource) (defBody s_FamEsource) (defScope s_FamEsource) .none kV8 dc8 pm8 an8 cd8 ct8), sl8⟩) (c8 : PySem.W.codeIn K cd8 "_law_source" = true) (k8 : PySem.W.keepIn K (.ref f8) = true)
    (a9 : PySem.W.nsIn K mainGlobals "_law_draw" = some (some (.ref f9))) (l9 : K.lookup f9 = some ⟨oc9, od9, .func (PySem.W.fnOf "_law_draw" "_law_draw" (defArgs s_FamEdraw) (defBody s_FamEdraw) (defScope s_FamEdraw) .none kV9 dc9 pm9 an9 cd9 ct9), sl9⟩) (c9 : PySem.W.codeIn K cd9 "_law_draw" = true) (k9 : PySem.W.keepIn K (.ref f9) = true)
    (a10 : PySem.W.nsIn K mainGlobals "_law_mixed" = some (some (.ref f10))) (l10 : K.lookup f10 = some ⟨oc10, od10, .func (PySem.W.fnOf "_law_mixed" "_law_mixed" (defArgs s_FamEmixed) (defBody s_FamEmixed) (defScope s_FamEmixed) .none kV10 dc10 pm10 an10 cd10 ct10), sl10⟩) (c10 : PySem.W.codeIn K cd10 "_law_mixed" = true) (k10 : PySem.W.keepIn K (.ref f10) = true)
    (a11 : PySem.W.nsIn K mainGlobals "_law_keys" = some (some (.ref f11))) (l11 : K.lookup f11 = some ⟨oc11, od11, .func (PySem.W.fnOf "_law_keys" "_law_keys" (defArgs s_FamEkeys) (defBody s_FamEkeys) (defScope s_FamEkeys) .none kV11 dc11 pm11 an11 cd11 ct11), sl11⟩) (c11 : PySem.W.codeIn K cd11 "_law_keys" = true) (k11 : PySem.W.keepIn K (.ref f11) = true)
    (a12 : PySem.W.nsIn K mainGlobals "_law_drawn_run" = some (some (.ref f12))) (l12 : K.lookup f12 = some ⟨oc12, od12, .func (PySem.W.fnOf "_law_drawn_run" "_law_drawn_run" (defArgs s_FamEdrawn) (defBody s_FamEdrawn) (defScope s_FamEdrawn) .none kV12 dc12 pm12 an12 cd12 ct12), sl12⟩) (c12 : PySem.W.codeIn K cd12 "_law_drawn_run" = true) (k12 : PySem.W.keepIn K (.ref f12) = true)
    (a13 : PySem.W.nsIn K mainGlobals "_law_played" = some (some (.ref f13))) (l13 : K.lookup f13 = some ⟨oc13, od13, .func (PySem.W.fnOf "_law_played" "_law_played" (defArgs s_Law05played) (defBody s_Law05played) (defScope s_Law05played) .none kV13 dc13 pm13 an13 cd13 ct13), sl13⟩) (c13 : PySem.W.codeIn K cd13 "_law_played" = true) (k13 : PySem.W.keepIn K (.ref f13) = true)
    (a14 : PySem.W.nsIn K mainGlobals "_law_right" = some (some (.ref f14))) (l14 : K.lookup f14 = some ⟨oc14, od14, .func (PySem.W.fnOf "_law_right" "_law_right" (defArgs s_Law05right) (defBody s_Law05right) (defScope s_Law05right) .none kV14 dc14 pm14 an14 cd14 ct14), sl14⟩) (c14 : PySem.W.codeIn K cd14 "_law_right" = true) (k14 : PySem.W.keepIn K (.ref f14) = true)
    (a15 : PySem.W.nsIn K mainGlobals "law" = some (some (.ref f15))) (l15 : K.lookup f15 = some ⟨oc15, od15, .func (PySem.W.fnOf "law" "law" (defArgs s_Law05law) (defBody s_Law05law) (defScope s_Law05law) .none kV15 dc15 pm15 an15 cd15 ct15), sl15⟩) (c15 : PySem.W.codeIn K cd15 "law" = true) (k15 : PySem.W.keepIn K (.ref f15) = true)
    (uLONGEST_KEY : PySem.W.nsIn K mainGlobals "LONGEST_KEY" = some (some (.int 12 tLONGEST_KEY)))
    (z0 : PySem.W.nsIn K mainGlobals "abs" = some none)
    (z1 : PySem.W.nsIn K mainGlobals "max" = some none)
    (z2 : PySem.W.nsIn K mainGlobals "min" = some none)
    (z3 : PySem.W.nsIn K mainGlobals "int" = some none)
    (z4 : PySem.W.nsIn K mainGlobals "len" = some none)
    (z5 : PySem.W.nsIn K mainGlobals "list" = some none)
    (z6 : PySem.W.nsIn K mainGlobals "range" = some none)
    (z7 : PySem.W.nsIn K mainGlobals "repr" = some none)
    (z8 : PySem.W.nsIn K mainGlobals "str" = some none)
    (z9 : PySem.W.nsIn K mainGlobals "enumerate" = some none)
    (z10 : PySem.W.nsIn K mainGlobals "isinstance" = some none)
    (z11 : PySem.W.nsIn K mainGlobals "sorted" = some none)
    (z12 : PySem.W.nsIn K mainGlobals "all" = some none)
    (z13 : PySem.W.nsIn K mainGlobals "any" = some none)
    (z14 : PySem.W.nsIn K mainGlobals "tuple" = some none)
    (z15 : PySem.W.nsIn K mainGlobals "dict" = some none)
    (z16 : PySem.W.nsIn K mainGlobals "set" = some none)
    (z17 : PySem.W.nsIn K mainGlobals "bool" = some none) :
    ∃ fd : FuncData, (∀ (s : Shared) (v : Value), BindsTo s fd ⟨[v], []⟩ [("script", v)]) ∧ ∀ base : Heap, K.In base → base.Ns mainGlobals mg → FnG l.prog w K mg base 7 fa fd ["script"] (spA K Law05.sp_law) := by
  have F0 := fun_mk (st := s_Pqplay) l0 c0 k0
  have b0 := F0.binds (ps := ["events"]) fun _ _ _ _ _ _ us hl => match us, hl with | [_], _ => rfl
  have F1 := fun_mk (st := s_Pkare_keys) l1 c1 k1
  have b1 := F1.binds (ps := ["words"]) fun _ _ _ _ _ _ us hl => match us, hl with | [_], _ => rfl
  have F2 := fun_mk (st := s_Pkis_events) l2 c2 k2
  have b2 := F2.binds (ps := ["value"]) fun _ _ _ _ _ _ us hl => match us, hl with | [_], _ => rfl
  have F3 := fun_mk (st := s_Pqplayed) l3 c3 k3
  have b3 := F3.binds (ps := ["value"]) fun _ _ _ _ _ _ us hl => match us, hl with | [_], _ => rfl
  have F4 := fun_mk (st := s_Pqchecked_run) l4 c4 k4
  have b4 := F4.binds (ps := ["value"]) fun _ _ _ _ _ _ us hl => match us, hl with | [_], _ => rfl
  have F5 := fun_mk (st := s_Pqcounted_writes) l5 c5 k5
  have b5 := F5.binds (ps := ["keys"]) fun _ _ _ _ _ _ us hl => match us, hl with | [_], _ => rfl
  have F6 := fun_mk (st := s_Pqwrites_of) l6 c6 k6
  have b6 := F6.binds (ps := ["run"]) fun _ _ _ _ _ _ us hl => match us, hl with | [_], _ => rfl
  have F7 := fun_mk (st := s_Pqshown_by) l7 c7 k7
  have b7 := F7.binds (ps := ["run"]) fun _ _ _ _ _ _ us hl => match us, hl with | [_], _ => rfl
  have F8 := fun_mk (st := s_FamEsource) l8 c8 k8
  have b8 := F8.binds (ps := ["script", "k"]) fun _ _ _ _ _ _ us hl => match us, hl with | [_, _], _ => rfl
  have F9 := fun_mk (st := s_FamEdraw) l9 c9 k9
  have b9 := F9.binds (ps := ["source", "many"]) fun _ _ _ _ _ _ us hl => match us, hl with | [_, _], _ => rfl
  have F10 := fun_mk (st := s_FamEmixed) l10 c10 k10
  have b10 := F10.binds (ps := ["source", "items"]) fun _ _ _ _ _ _ us hl => match us, hl with | [_, _], _ => rfl
  have F11 := fun_mk (st := s_FamEkeys) l11 c11 k11
  have b11 := F11.binds (ps := ["source", "most"]) fun _ _ _ _ _ _ us hl => match us, hl with | [_, _], _ => rfl
  have F12 := fun_mk (st := s_FamEdrawn) l12 c12 k12
  have b12 := F12.binds (ps := ["source", "keys", "many"]) fun _ _ _ _ _ _ us hl => match us, hl with | [_, _, _], _ => rfl
  have F13 := fun_mk (st := s_Law05played) l13 c13 k13
  have b13 := F13.binds (ps := ["events"]) fun _ _ _ _ _ _ us hl => match us, hl with | [_], _ => rfl
  have F14 := fun_mk (st := s_Law05right) l14 c14 k14
  have b14 := F14.binds (ps := ["run"]) fun _ _ _ _ _ _ us hl => match us, hl with | [_], _ => rfl
  have F15 := fun_mk (st := s_Law05law) l15 c15 k15
  have b15 := F15.binds (ps := ["script"]) fun _ _ _ _ _ _ us hl => match us, hl with | [_], _ => rfl
  have bi : Bi mg := ⟨fun x hx => by
    simp only [List.mem_cons, List.not_mem_nil, or_false] at hx
    rcases hx with rfl | rfl | rfl | rfl | rfl | rfl | rfl | rfl | rfl | rfl | rfl | rfl | rfl | rfl | rfl | rfl | rfl | rfl
    · exact PySem.W.mg_none_of X G z0
    · exact PySem.W.mg_none_of X G z1
    · exact PySem.W.mg_none_of X G z2
    · exact PySem.W.mg_none_of X G z3
    · exact PySem.W.mg_none_of X G z4
    · exact PySem.W.mg_none_of X G z5
    · exact PySem.W.mg_none_of X G z6
    · exact PySem.W.mg_none_of X G z7
    · exact PySem.W.mg_none_of X G z8
    · exact PySem.W.mg_none_of X G z9
    · exact PySem.W.mg_none_of X G z10
    · exact PySem.W.mg_none_of X G z11
    · exact PySem.W.mg_none_of X G z12
    · exact PySem.W.mg_none_of X G z13
    · exact PySem.W.mg_none_of X G z14
    · exact PySem.W.mg_none_of X G z15
    · exact PySem.W.mg_none_of X G z16
    · exact PySem.W.mg_none_of X G z17⟩
  have e := hfa.symm.trans (PySem.W.mg_of X G a15)
  cases e
  have CLONGEST_KEY : CnD K mg "LONGEST_KEY" (.int 12) := CnD.int (PySem.W.mg_of X G uLONGEST_KEY)
  refine ⟨PySem.W.fnOf "law" "law" (defArgs s_Law05law) (defBody s_Law05law) (defScope s_Law05law) .none kV15 dc15 pm15 an15 cd15 ct15, fun s v => .of_eq rfl, fun base X2 G2 => ?_⟩
  have E0 : Df l.prog w K mg base 1 "play" Pq.sp_play := ⟨f0, _, _, ok_Pqplay F0 bi , PySem.W.mg_of X G a0, k0, b0, Pq.mono_play⟩
  have E1 : Df l.prog w K mg base 1 "are_keys" Pk.sp_are_keys := ⟨f1, _, _, ok_Pkare_keys F1 bi CLONGEST_KEY, PySem.W.mg_of X G a1, k1, b1, Pk.mono_are_keys⟩
  have E2 : Df l.prog w K mg base 2 "is_events" Pk.sp_is_events := ⟨f2, _, _, ok_Pkis_events F2 bi E1 (by decide), PySem.W.mg_of X G a2, k2, b2, Pk.mono_is_events⟩
  have E3 : Df l.prog w K mg base 3 "played" Pq.sp_played := ⟨f3, _, _, ok_Pqplayed F3 bi E0 E2 (by decide) (by decide), PySem.W.mg_of X G a3, k3, b3, Pq.mono_played⟩
  have E4 : Df l.prog w K mg base 4 "checked_run" Pq.sp_checked_run := ⟨f4, _, _, ok_Pqchecked_run F4 bi E3 (by decide), PySem.W.mg_of X G a4, k4, b4, Pq.mono_checked_run⟩
  have E5 : Df l.prog w K mg base 1 "counted_writes" Pq.sp_counted_writes := ⟨f5, _, _, ok_Pqcounted_writes F5 bi , PySem.W.mg_of X G a5, k5, b5, Pq.mono_counted_writes⟩
  have E6 : Df l.prog w K mg base 5 "writes_of" Pq.sp_writes_of := ⟨f6, _, _, ok_Pqwrites_of F6 bi E4 (by decide), PySem.W.mg_of X G a6, k6, b6, Pq.mono_writes_of⟩
  have E7 : Df l.prog w K mg base 5 "shown_by" Pq.sp_shown_by := ⟨f7, _, _, ok_Pqshown_by F7 bi E4 E5 (by decide) (by decide), PySem.W.mg_of X G a7, k7, b7, Pq.mono_shown_by⟩
  have E8 : Df l.prog w K mg base 1 "_law_source" Lc.sp_source := ⟨f8, _, _, ok_FamEsource F8 bi , PySem.W.mg_of X G a8, k8, b8, Lc.mono_source⟩
  have E9 : Df l.prog w K mg base 1 "_law_draw" Lc.sp_draw := ⟨f9, _, _, ok_FamEdraw F9 bi , PySem.W.mg_of X G a9, k9, b9, Lc.mono_draw⟩
  have E10 : Df l.prog w K mg base 2 "_law_mixed" Lc.sp_mixed := ⟨f10, _, _, ok_FamEmixed F10 bi E9 (by decide), PySem.W.mg_of X G a10, k10, b10, Lc.mono_mixed⟩
  have E11 : Df l.prog w K mg base 3 "_law_keys" FamE.sp_keys := ⟨f11, _, _, ok_FamEkeys F11 bi E10 E9 (by decide) (by decide), PySem.W.mg_of X G a11, k11, b11, FamE.mono_keys⟩
  have E12 : Df l.prog w K mg base 2 "_law_drawn_run" FamE.sp_drawn := ⟨f12, _, _, ok_FamEdrawn F12 bi E9 (by decide), PySem.W.mg_of X G a12, k12, b12, FamE.mono_drawn⟩
  have E13 : Df l.prog w K mg base 1 "_law_played" Law05.sp_played := ⟨f13, _, _, ok_Law05played F13 bi , PySem.W.mg_of X G a13, k13, b13, Law05.mono_played⟩
  have E14 : DfG l.prog w K mg base 6 "_law_right" Law05.sp_right := ⟨f14, _, _, ok_Law05right F14 bi E13 E6 E7 (by decide) (by decide) (by decide), PySem.W.mg_of X G a14, k14, b14, Law05.mono_right⟩
  exact ok_Law05law F15 bi E8 E12 E6 E7 E11 E9 E14 (by decide) (by decide) (by decide) (by decide) (by decide) (by decide) (by decide)
theorem walk {l : PySem.W.OpenLaw} {q : Program} {loose : List Str} {XP : (Str → Option Value) → Heap → Prop} {YP : World → Heap → Prop} {d : DefRec} {K : Params → PySem.W.Frag} (hn : l.most = some 63) (hdf : d.params.defaults = [])
    (hY : ∀ (w : World) (h : Heap), YP w h → (K w.params).In h)
    (F : ∀ (w : World) (mg : Str → Option Value) (fa : Addr) (h : Heap), (K w.params).In h → h.Ns mainGlobals mg → mg d.name = some (.ref fa) →
      ∃ fd : FuncData, (∀ (s : Shared) (u : Value), BindsTo s fd ⟨[u], []⟩ [("script", u)]) ∧ ∀ base : Heap, (K w.params).In base → base.Ns mainGlobals mg → FnG l.prog w (K w.params) mg base 7 fa fd ["script"] (spA (K w.params) Law05.sp_law)) :
    PySem.W.WalkO q loose XP YP l.row.toRowW d [] (fun f vs => PySem.call f vs) :=
  walk_ofG (n := 63) (k := 7) (x := "script") (sp := fun w => spA (K w.params) Law05.sp_law) hn (by decide) hdf ⟨rfl, by decide, by decide⟩ hY F fun _ _ a ns hl _ _ hS => spA_script hS ⟨ns, rfl, hl, rfl⟩ _ Law05.mono_law
end Rk05
open PySem PySem.W PyProof.Rows
set_option maxRecDepth 100000 in
set_option maxHeartbeats 0 in
theorem PySem.Challenge.cw_conflate_k05_logs_of_runs_holds : PySem.Challenge.rw_conflate_k05_logs_of_runs.Holds := by
  w_on; o_law; k_head; (case hw => w_witness2)
  k_fill
  refine Rk05.walk (l := PySem.Challenge.rw_conflate_k05_logs_of_runs) rfl rfl (fun w h Y => PySem.W.kIn_of Y) ?F
  case F =>
    intro w mg fa h KX G hmg
    refine' Rk05.all_mk KX G hmg ?a0 ?l0 ?c0 ?k0 ?a1 ?l1 ?c1 ?k1 ?a2 ?l2 ?c2 ?k2 ?a3 ?l3 ?c3 ?k3 ?a4 ?l4 ?c4 ?k4 ?a5 ?l5 ?c5 ?k5 ?a6 ?l6 ?c6 ?k6 ?a7 ?l7 ?c7 ?k7 ?a8 ?l8 ?c8 ?k8 ?a9 ?l9 ?c9 ?k9 ?a10 ?l10 ?c10 ?k10 ?a11 ?l11 ?c11 ?k11 ?a12 ?l12 ?c12 ?k12 ?a13 ?l13 ?c13 ?k13 ?a14 ?l14 ?c14 ?k14 ?a15 ?l15 ?c15 ?k15 ?uLONGEST_KEY ?z0 ?z1 ?z2 ?z3 ?z4 ?z5 ?z6 ?z7 ?z8 ?z9 ?z10 ?z11 ?z12 ?z13 ?z14 ?z15 ?z16 ?z17
    (case a0 => k_is)
    (case l0 => k_is)
    (case c0 => k_is)
    (case k0 => k_is)
    (case a1 => k_is)
    (case l1 => k_is)
    (case c1 => k_is)
    (case k1 => k_is)
    (case a2 => k_is)
    (case l2 => k_is)
    (case c2 => k_is)
    (case k2 => k_is)
    (case a3 => k_is)
    (case l3 => k_is)
    (case c3 => k_is)
    (case k3 => k_is)
    (case a4 => k_is)
    (case l4 => k_is)
    (case c4 => k_is)
    (case k4 => k_is)
    (case a5 => k_is)
    (case l5 => k_is)
    (case c5 => k_is)
    (case k5 => k_is)
    (case a6 => k_is)
    (case l6 => k_is)
    (case c6 => k_is)
    (case k6 => k_is)
    (case a7 => k_is)
    (case l7 => k_is)
    (case c7 => k_is)
    (case k7 => k_is)
    (case a8 => k_is)
    (case l8 => k_is)
    (case c8 => k_is)
    (case k8 => k_is)
    (case a9 => k_is)
    (case l9 => k_is)
    (case c9 => k_is)
    (case k9 => k_is)
    (case a10 => k_is)
    (case l10 => k_is)
    (case c10 => k_is)
    (case k10 => k_is)
    (case a11 => k_is)
    (case l11 => k_is)
    (case c11 => k_is)
    (case k11 => k_is)
    (case a12 => k_is)
    (case l12 => k_is)
    (case c12 => k_is)
    (case k12 => k_is)
    (case a13 => k_is)
    (case l13 => k_is)
    (case c13 => k_is)
    (case k13 => k_is)
    (case a14 => k_is)
    (case l14 => k_is)
    (case c14 => k_is)
    (case k14 => k_is)
    (case a15 => k_is)
    (case l15 => k_is)
    (case c15 => k_is)
    (case k15 => k_is)
    (case uLONGEST_KEY => k_is)
    (case z0 => k_is)
    (case z1 => k_is)
    (case z2 => k_is)
    (case z3 => k_is)
    (case z4 => k_is)
    (case z5 => k_is)
    (case z6 => k_is)
    (case z7 => k_is)
    (case z8 => k_is)
    (case z9 => k_is)
    (case z10 => k_is)
    (case z11 => k_is)
    (case z12 => k_is)
    (case z13 => k_is)
    (case z14 => k_is)
    (case z15 => k_is)
    (case z16 => k_is)
    (case z17 => k_is)
