import Derived.Test.YtgiiegppaleldaaGreatDoorM
/- Rows as lists of numbers, and what the document's order says of them: no call is walked here. -/
namespace Go.Proofs.YtgiiegppaleldaaGreatDoor
open Go.RowKit

def ordOf (ts : List (Int × Int × Int × Int)) (t : Nat) : Int := ((ts[t]?).map (fun u => u.2.2.1)).getD 0

structure Lined (ts : List (Int × Int × Int × Int)) (last : Int) (ln : Nat → List Nat) : Prop where
  mem : ∀ (r t : Nat), t ∈ ln r ↔ ∃ u, ts[t]? = some u ∧ u.2.1 = r
  sorted : ∀ r, (ln r).Pairwise (fun a b => ordOf ts a < ordOf ts b)
  row : ∀ (t : Nat) u, ts[t]? = some u → 0 ≤ u.2.1 ∧ u.2.1 ≤ 3
  last : ∀ (t : Nat) u, ts[t]? = some u → u.2.2.1 < last

theorem Lined.nodup {ts : List (Int × Int × Int × Int)} {last : Int} {ln : Nat → List Nat} (h : Lined ts last ln) (r : Nat) : (ln r).Nodup :=
  (h.sorted r).imp (fun h e => by rw [e] at h; omega)

theorem Lined.lt {ts : List (Int × Int × Int × Int)} {last : Int} {ln : Nat → List Nat} (h : Lined ts last ln) {r t : Nat} (ht : t ∈ ln r) : t < ts.length := by
  obtain ⟨u, hu, _⟩ := (h.mem r t).1 ht
  exact (List.getElem?_eq_some_iff.1 hu).1

/-- b is no better than a. -/
def Beats (ts : List (Int × Int × Int × Int)) (a b : Nat) : Prop := ∀ u v, ts[a]? = some u → ts[b]? = some v → v.2.1 < u.2.1 ∨ (v.2.1 = u.2.1 ∧ u.2.2.1 ≤ v.2.2.1)

theorem curTo_best (ts : List (Int × Int × Int × Int)) : ∀ k, k ≤ ts.length → 0 < k → ∃ j : Nat, curTo ts k = j ∧ j < k ∧ ∀ i, i < k → Beats ts j i
  | 0, _, h => absurd h (by omega)
  | k + 1, h, _ => by
    obtain ⟨t, ht⟩ : ∃ t, ts[k]? = some t := ⟨_, List.getElem?_eq_getElem h⟩
    by_cases hk : k = 0
    · subst hk
      refine ⟨0, cur_first ht rfl, by omega, fun i hi => ?_⟩
      have : i = 0 := by omega
      subst this
      intro u v hu hv
      rw [hu] at hv; cases hv
      right; omega
    · obtain ⟨j, e, hj, hb⟩ := curTo_best ts k (by omega) (by omega)
      obtain ⟨u, hu⟩ : ∃ u, ts[j]? = some u := ⟨_, List.getElem?_eq_getElem (by omega)⟩
      by_cases hc : u.2.1 < t.2.1 ∨ (t.2.1 = u.2.1 ∧ t.2.2.1 < u.2.2.1)
      · refine ⟨k, cur_new ht e hu hc, by omega, fun i hi => ?_⟩
        intro a b ha hb'
        rw [ht] at ha; cases ha
        by_cases hik : i = k
        · subst hik; rw [ht] at hb'; cases hb'; right; omega
        · have := hb i (by omega) u b hu hb'
          omega
      · refine ⟨j, cur_old ht e hu hc, by omega, fun i hi => ?_⟩
        intro a b ha hb'
        rw [hu] at ha; cases ha
        by_cases hik : i = k
        · subst hik; rw [ht] at hb'; cases hb'; omega
        · exact hb i (by omega) u b hu hb'

/-- The current one: the first of the highest row in which one stands. -/
theorem cur_head {ts : List (Int × Int × Int × Int)} {last : Int} {ln : Nat → List Nat} (h : Lined ts last ln) {r t : Nat} {rest : List Nat} (hr : ln r = t :: rest) (hi : ∀ s, r < s → ln s = []) : curTo ts ts.length = t := by
  obtain ⟨u, hu, hur⟩ := (h.mem r t).1 (by rw [hr]; simp)
  have htl := (List.getElem?_eq_some_iff.1 hu).1
  obtain ⟨j, e, hj, hb⟩ := curTo_best ts ts.length (Nat.le_refl _) (by omega)
  obtain ⟨v, hv⟩ : ∃ v, ts[j]? = some v := ⟨_, List.getElem?_eq_getElem hj⟩
  have h1 := hb t htl v u hv hu
  have hv0 := h.row j v hv
  -- j's row is not above r
  have hjm : j ∈ ln v.2.1.toNat := (h.mem _ _).2 ⟨v, hv, by omega⟩
  have h2 : v.2.1.toNat ≤ r := by
    rcases Nat.lt_or_ge r v.2.1.toNat with hlt | hge
    · rw [hi _ hlt] at hjm; simp at hjm
    · exact hge
  have h3 : v.2.1 = r := by omega
  have h4 : v.2.1.toNat = r := by omega
  rw [h4, hr] at hjm
  rw [e]
  rcases List.mem_cons.1 hjm with rfl | hm
  · rfl
  · have hp := h.sorted r
    rw [hr] at hp
    have := (List.pairwise_cons.1 hp).1 j hm
    simp only [ordOf, hu, hv, Option.map_some, Option.getD_some] at this
    omega

theorem cur_some {ts : List (Int × Int × Int × Int)} {last : Int} {ln : Nat → List Nat} (h : Lined ts last ln) (hp : 0 < ts.length) : ln 3 ≠ [] ∨ ln 2 ≠ [] ∨ ln 1 ≠ [] ∨ ln 0 ≠ [] := by
  obtain ⟨u, hu⟩ : ∃ u, ts[0]? = some u := ⟨_, List.getElem?_eq_getElem hp⟩
  have hb := h.row 0 u hu
  have hm : 0 ∈ ln u.2.1.toNat := (h.mem _ _).2 ⟨u, hu, by omega⟩
  have hne : ln u.2.1.toNat ≠ [] := List.ne_nil_of_mem hm
  have : u.2.1.toNat = 0 ∨ u.2.1.toNat = 1 ∨ u.2.1.toNat = 2 ∨ u.2.1.toNat = 3 := by omega
  rcases this with e | e | e | e <;> rw [e] at hne <;> simp [hne]

theorem Lined.high {ts : List (Int × Int × Int × Int)} {last : Int} {ln : Nat → List Nat} (h : Lined ts last ln) {s : Nat} (hs : 3 < s) : ln s = [] := by
  rcases hl : ln s with _ | ⟨t, r⟩
  · rfl
  · obtain ⟨u, hu, he⟩ := (h.mem s t).1 (by rw [hl]; simp)
    have := h.row t u hu
    omega

def comeLast (ln : Nat → List Nat) (r t : Nat) : Nat → List Nat := fun s => if s = r then (ln r).erase t ++ [t] else ln s

theorem Lined.toLast {ts : List (Int × Int × Int × Int)} {last : Int} {ln : Nat → List Nat} (h : Lined ts last ln) {t : Nat} {u : Int × Int × Int × Int} (hu : ts[t]? = some u) {r : Nat} (hr : u.2.1 = r) :
    Lined (ts.modify t (fun u => (u.1, u.2.1, last, u.2.2.2))) (last + 1) (comeLast ln r t) := by
  have hg : ∀ i : Nat, (ts.modify t (fun u => (u.1, u.2.1, last, u.2.2.2)))[i]? = if t = i then some (u.1, u.2.1, last, u.2.2.2) else ts[i]? := by
    intro i
    rw [List.getElem?_modify]
    by_cases e : t = i
    · subst e; simp [hu]
    · simp [e]
  have htm : t ∈ ln r := (h.mem r t).2 ⟨u, hu, hr⟩
  refine ⟨?_, ?_, ?_, ?_⟩
  · intro s i
    rw [hg]
    unfold comeLast
    by_cases hs : s = r
    · subst hs
      rw [if_pos rfl, List.mem_append, (h.nodup s).mem_erase_iff, List.mem_singleton, h.mem]
      by_cases e : t = i
      · subst e; simp [hr]
      · simp [e, Ne.symm e]
    · rw [if_neg hs, h.mem]
      by_cases e : t = i
      · subst e
        simp only [hu, if_pos, Option.some.injEq, exists_eq_left']
      · simp [e]
  · intro s
    have ho : ∀ i, i ≠ t → ordOf (ts.modify t (fun u => (u.1, u.2.1, last, u.2.2.2))) i = ordOf ts i := by
      intro i hi; unfold ordOf; rw [hg, if_neg (Ne.symm hi)]
    have hot : ordOf (ts.modify t (fun u => (u.1, u.2.1, last, u.2.2.2))) t = last := by
      unfold ordOf; rw [hg, if_pos rfl]; simp
    have hold : ∀ l : List Nat, t ∉ l → l.Pairwise (fun a b => ordOf ts a < ordOf ts b) → l.Pairwise (fun a b => ordOf (ts.modify t (fun u => (u.1, u.2.1, last, u.2.2.2))) a < ordOf (ts.modify t (fun u => (u.1, u.2.1, last, u.2.2.2))) b) := by
      intro l hl hp
      refine hp.imp_of_mem ?_
      intro a b ha hb hab
      rw [ho a (fun e => hl (e ▸ ha)), ho b (fun e => hl (e ▸ hb))]; exact hab
    unfold comeLast
    by_cases hs : s = r
    · subst hs
      rw [if_pos rfl, List.pairwise_append]
      have hne : t ∉ (ln s).erase t := by rw [(h.nodup s).mem_erase_iff]; simp
      refine ⟨hold _ hne ((h.sorted s).sublist List.erase_sublist), by simp, ?_⟩
      intro a ha b hb
      rw [List.mem_singleton] at hb
      subst hb
      have hat : a ≠ b := fun e => hne (e ▸ ha)
      rw [ho a hat, hot]
      have ham : a ∈ ln s := List.mem_of_mem_erase ha
      obtain ⟨v, hv, _⟩ := (h.mem s a).1 ham
      have := h.last a v hv
      simpa [ordOf, hv] using this
    · rw [if_neg hs]
      refine hold _ ?_ (h.sorted s)
      intro hm
      obtain ⟨v, hv, he⟩ := (h.mem s t).1 hm
      rw [hu] at hv; cases hv; omega
  · intro i v hv
    rw [hg] at hv
    by_cases e : t = i
    · rw [if_pos e] at hv; cases hv; exact h.row t u hu
    · rw [if_neg e] at hv; exact h.row i v hv
  · intro i v hv
    rw [hg] at hv
    by_cases e : t = i
    · rw [if_pos e] at hv; cases hv; show last < last + 1; omega
    · rw [if_neg e] at hv; have := h.last i v hv; omega

theorem Lined.setLeft {ts : List (Int × Int × Int × Int)} {last : Int} {ln : Nat → List Nat} (h : Lined ts last ln) (t : Nat) (n : Int) : Lined (ts.modify t (fun u => (u.1, u.2.1, u.2.2.1, n))) last ln := by
  have hg : ∀ (i : Nat) v, (ts.modify t (fun u => (u.1, u.2.1, u.2.2.1, n)))[i]? = some v → ∃ u, ts[i]? = some u ∧ u.2.1 = v.2.1 ∧ u.2.2.1 = v.2.2.1 := by
    intro i v hv
    rw [List.getElem?_modify] at hv
    rcases hx : ts[i]? with _ | u
    · simp [hx] at hv
    · rw [hx] at hv
      by_cases e : t = i
      · simp [e] at hv; exact ⟨u, rfl, by rw [← hv], by rw [← hv]⟩
      · simp [e] at hv; exact ⟨u, rfl, by rw [← hv], by rw [← hv]⟩
  have hg' : ∀ (i : Nat) u, ts[i]? = some u → ∃ v, (ts.modify t (fun u => (u.1, u.2.1, u.2.2.1, n)))[i]? = some v ∧ v.2.1 = u.2.1 ∧ v.2.2.1 = u.2.2.1 := by
    intro i u hu
    rw [List.getElem?_modify, hu]
    by_cases e : t = i
    · simp [e]
    · simp [e]
  have ho : ∀ i, ordOf (ts.modify t (fun u => (u.1, u.2.1, u.2.2.1, n))) i = ordOf ts i := by
    intro i
    unfold ordOf
    rw [List.getElem?_modify]
    cases ts[i]? with
    | none => simp
    | some u => by_cases e : t = i <;> simp [e]
  refine ⟨?_, ?_, ?_, ?_⟩
  · intro r i
    rw [h.mem]
    constructor
    · rintro ⟨u, hu, he⟩
      obtain ⟨v, hv, h1, _⟩ := hg' i u hu
      exact ⟨v, hv, by rw [h1, he]⟩
    · rintro ⟨v, hv, he⟩
      obtain ⟨u, hu, h1, _⟩ := hg i v hv
      exact ⟨u, hu, by rw [h1, he]⟩
  · intro r
    exact (h.sorted r).imp (fun hab => by rw [ho, ho]; exact hab)
  · intro i v hv
    obtain ⟨u, hu, h1, _⟩ := hg i v hv
    have := h.row i u hu
    omega
  · intro i v hv
    obtain ⟨u, hu, _, h2⟩ := hg i v hv
    have := h.last i u hu
    omega

theorem Lined.add {ts : List (Int × Int × Int × Int)} {ln : Nat → List Nat} (h : Lined ts ts.length ln) (a : Int) (r : Nat) (hr : r ≤ 3) (n : Int) :
    Lined (ts ++ [(a, (r : Int), (ts.length : Int), n)]) ((ts.length : Int) + 1) (comeLast ln r ts.length) := by
  have hne : ∀ s, ts.length ∉ ln s := fun s hm => Nat.lt_irrefl _ (h.lt hm)
  have hg : ∀ i : Nat, (ts ++ [(a, (r : Int), (ts.length : Int), n)])[i]? = if i = ts.length then some (a, (r : Int), (ts.length : Int), n) else ts[i]? := by
    intro i
    by_cases e : i = ts.length
    · subst e; simp
    · rw [if_neg e]
      rcases Nat.lt_or_ge i ts.length with hl | hl
      · exact List.getElem?_append_left hl
      · rw [List.getElem?_eq_none (by simp; omega), List.getElem?_eq_none hl]
  have hcl : ∀ s, comeLast ln r ts.length s = if s = r then ln r ++ [ts.length] else ln s := by
    intro s; unfold comeLast; rw [List.erase_of_not_mem (hne r)]
  refine ⟨?_, ?_, ?_, ?_⟩
  · intro s i
    rw [hcl, hg]
    by_cases hs : s = r
    · subst hs
      rw [if_pos rfl, List.mem_append, List.mem_singleton, h.mem]
      by_cases e : i = ts.length
      · subst e; simp
      · simp [e]
    · rw [if_neg hs, h.mem]
      by_cases e : i = ts.length
      · subst e
        simp only [if_pos, Option.some.injEq, exists_eq_left']
        constructor
        · rintro ⟨u, hu, _⟩
          simp at hu
        · intro e; omega
      · simp [e]
  · intro s
    have hold : ∀ s, (ln s).Pairwise (fun x y => ordOf (ts ++ [(a, (r : Int), (ts.length : Int), n)]) x < ordOf (ts ++ [(a, (r : Int), (ts.length : Int), n)]) y) := by
      intro s
      refine (h.sorted s).imp_of_mem ?_
      intro x y hx hy hxy
      unfold ordOf at hxy ⊢
      rw [hg, hg, if_neg (show ¬ x = ts.length from fun e => hne s (e ▸ hx)), if_neg (show ¬ y = ts.length from fun e => hne s (e ▸ hy))]
      exact hxy
    rw [hcl]
    by_cases hs : s = r
    · subst hs
      rw [if_pos rfl, List.pairwise_append]
      refine ⟨hold s, by simp, ?_⟩
      intro x hx y hy
      rw [List.mem_singleton] at hy
      subst hy
      obtain ⟨u, hu, _⟩ := (h.mem s x).1 hx
      have := h.last x u hu
      unfold ordOf
      rw [hg, hg, if_neg (show ¬ x = ts.length from fun e => hne s (e ▸ hx)), if_pos rfl, hu]
      simpa using this
    · rw [if_neg hs]; exact hold s
  · intro i v hv
    rw [hg] at hv
    by_cases e : i = ts.length
    · rw [if_pos e] at hv; cases hv; simp; omega
    · rw [if_neg e] at hv; exact h.row i v hv
  · intro i v hv
    rw [hg] at hv
    by_cases e : i = ts.length
    · rw [if_pos e] at hv; cases hv; simp; omega
    · rw [if_neg e] at hv; have := h.last i v hv; omega

theorem Lined.none : Lined [] 0 (fun _ => []) := ⟨by simp, by simp, by simp, by simp⟩

end Go.Proofs.YtgiiegppaleldaaGreatDoor
