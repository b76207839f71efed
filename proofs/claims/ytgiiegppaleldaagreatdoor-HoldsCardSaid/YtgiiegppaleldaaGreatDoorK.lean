import Derived.Test.YtgiiegppaleldaaGreatDoorJ
import Derived.Deep.QuietTactic
import Derived.BigQuiet
namespace Go.Proofs.YtgiiegppaleldaaGreatDoor
open Go.RowKit

/-- r is the place of the one with these two numbers; -1: there is none. -/
def IxOf (L : List (Int × Int × Int × Int)) (s n r : Int) : Prop :=
  (r = -1 ∧ ∀ (i : Nat) p, L[i]? = some p → ¬ (p.1 = s ∧ p.2.1 = n)) ∨ ∃ (i : Nat) (p : Int × Int × Int × Int), r = i ∧ L[i]? = some p ∧ p.1 = s ∧ p.2.1 = n

theorem ix_step {L : List (Int × Int × Int × Int)} {s n : Int} {k : Nat} {p : Int × Int × Int × Int} (h : Hid (∀ (i : Nat) p, i < k → L[i]? = some p → ¬ (p.1 = s ∧ p.2.1 = n))) (hp : L[k]? = some p) (hn : ¬ (p.1 = s ∧ p.2.1 = n)) :
    Hid (∀ (i : Nat) p, i < k + 1 → L[i]? = some p → ¬ (p.1 = s ∧ p.2.1 = n)) := fun i q hi hq => by
  by_cases e : i < k
  · exact h.out i q e hq
  · have : i = k := by omega
    subst this
    rw [hp] at hq
    cases hq
    exact hn

set_option maxRecDepth 100000 in
set_option maxHeartbeats 2000000 in
theorem refPass_any (y : Nat) (K : RK) (vt vp vl : Value) (s n : Int) (w : World) (h : RefAt w y K vt vp vl) (hb : K.passes.length ≤ 1000000000000) :
    Calls Tryz.prog 51 #[.pointer (some ⟨y, 0, none⟩), .int .i64 s, .int .i64 n] w fun e w' => ∃ r, e = .returned (.int .i64 r) ∧ IxOf K.passes s n r ∧ w' = w := by
  have hs := h.pa
  have hc : w.cell? ⟨y, 2, none⟩ = some vp := (cell_of_row w y 2 _ _ _ h.blk).trans rfl
  obtain ⟨a, c, ev⟩ := hs.slice
  rw [List.length_map] at ev
  subst ev
  obtain ⟨m, hn'⟩ : ∃ m, K.passes.length = m := ⟨_, rfl⟩
  rw [hn'] at hc hs hb
  generalize K.passes = L at hs hn' ⊢
  have HS := hid hs
  have HN := hid hn'
  clear hs h hn'
  go_enter Tryz.func51, Tryz.ntmps51
  go_wp2
  go_loop [7] (fun i => ∃ k : Nat, k ≤ m ∧ i = .int .i64 k ∧ Hid (∀ (i : Nat) p, i < k → L[i]? = some p → ¬ (p.1 = s ∧ p.2.1 = n))) (fun i => m - (intOf i).toNat)
  case atStart => exact ⟨0, Nat.zero_le _, rfl, fun i p h => absurd h (by omega)⟩
  case round =>
    obtain ⟨k, hk, rfl, hno⟩ := hrel
    by_cases hlt : k < m
    · obtain ⟨p, hp⟩ : ∃ p, L[k]? = some p := ⟨_, List.getElem?_eq_getElem (by have := HN.out; omega)⟩
      obtain ⟨g, ea, hx⟩ := HS.out.is_some (by omega)
      clear hx
      subst ea
      have r1 := HS.out.row (i := k) (r := [.int .i64 p.1, .int .i64 p.2.1, .int .i64 p.2.2.1, .int .i64 p.2.2.2]) (by rw [List.getElem?_map, hp]; rfl)
      have g0 := r1 0 (.int .i64 p.1) rfl
      have g1 := r1 1 (.int .i64 p.2.1) rfl
      simp only [Nat.add_zero] at g0
      have HP := hid hp
      clear r1 hp
      by_cases f0 : p.1 = s
      · have d0 : (p.1 == s) = true := by simp [f0]
        by_cases f1 : p.2.1 = n
        · have d1 : (p.2.1 == n) = true := by simp [f1]
          have F := hid (And.intro f0 f1)
          clear f0 f1
          go_wp2
          go_ret
          exact ⟨_, rfl, .inr ⟨k, p, rfl, HP.out, F.out.1, F.out.2⟩, rfl⟩
        · have d1 : (p.2.1 == n) = false := by simp [f1]
          have F := hid f1
          clear f0 f1
          go_wp2
          exact ⟨⟨k + 1, by omega, by go_num, ix_step hno HP.out (fun h => F.out h.2)⟩, by simp [intOf]; omega⟩
      · have d0 : (p.1 == s) = false := by simp [f0]
        have F := hid f0
        clear f0
        go_wp2
        exact ⟨⟨k + 1, by omega, by go_num, ix_step hno HP.out (fun h => F.out h.1)⟩, by simp [intOf]; omega⟩
    · go_wp2
      go_ret
      exact ⟨_, rfl, .inl ⟨rfl, fun i p hp => hno.out i p (by have := (List.getElem?_eq_some_iff.1 hp).1; have := HN.out; omega) hp⟩, rfl⟩

set_option maxRecDepth 100000 in
set_option maxHeartbeats 2000000 in
theorem refLeaf_any (y : Nat) (K : RK) (vt vp vl : Value) (s n : Int) (w : World) (h : RefAt w y K vt vp vl) (hb : K.leaves.length ≤ 1000000000000) :
    Calls Tryz.prog 62 #[.pointer (some ⟨y, 0, none⟩), .int .i64 s, .int .i64 n] w fun e w' => ∃ r, e = .returned (.int .i64 r) ∧ IxOf K.leaves s n r ∧ w' = w := by
  have hs := h.le
  have hc : w.cell? ⟨y, 3, none⟩ = some vl := (cell_of_row w y 3 _ _ _ h.blk).trans rfl
  obtain ⟨a, c, ev⟩ := hs.slice
  rw [List.length_map] at ev
  subst ev
  obtain ⟨m, hn'⟩ : ∃ m, K.leaves.length = m := ⟨_, rfl⟩
  rw [hn'] at hc hs hb
  generalize K.leaves = L at hs hn' ⊢
  have HS := hid hs
  have HN := hid hn'
  clear hs h hn'
  go_enter Tryz.func62, Tryz.ntmps62
  go_wp2
  go_loop [7] (fun i => ∃ k : Nat, k ≤ m ∧ i = .int .i64 k ∧ Hid (∀ (i : Nat) p, i < k → L[i]? = some p → ¬ (p.1 = s ∧ p.2.1 = n))) (fun i => m - (intOf i).toNat)
  case atStart => exact ⟨0, Nat.zero_le _, rfl, fun i p h => absurd h (by omega)⟩
  case round =>
    obtain ⟨k, hk, rfl, hno⟩ := hrel
    by_cases hlt : k < m
    · obtain ⟨p, hp⟩ : ∃ p, L[k]? = some p := ⟨_, List.getElem?_eq_getElem (by have := HN.out; omega)⟩
      obtain ⟨g, ea, hx⟩ := HS.out.is_some (by omega)
      clear hx
      subst ea
      have r1 := HS.out.row (i := k) (r := [.int .i64 p.1, .int .i64 p.2.1, .int .i64 p.2.2.1, .int .i64 p.2.2.2, .int .i64 (-1), .int .i64 (-1)]) (by rw [List.getElem?_map, hp]; rfl)
      have g0 := r1 0 (.int .i64 p.1) rfl
      have g1 := r1 1 (.int .i64 p.2.1) rfl
      simp only [Nat.add_zero] at g0
      have HP := hid hp
      clear r1 hp
      by_cases f0 : p.1 = s
      · have d0 : (p.1 == s) = true := by simp [f0]
        by_cases f1 : p.2.1 = n
        · have d1 : (p.2.1 == n) = true := by simp [f1]
          have F := hid (And.intro f0 f1)
          clear f0 f1
          go_wp2
          go_ret
          exact ⟨_, rfl, .inr ⟨k, p, rfl, HP.out, F.out.1, F.out.2⟩, rfl⟩
        · have d1 : (p.2.1 == n) = false := by simp [f1]
          have F := hid f1
          clear f0 f1
          go_wp2
          exact ⟨⟨k + 1, by omega, by go_num, ix_step hno HP.out (fun h => F.out h.2)⟩, by simp [intOf]; omega⟩
      · have d0 : (p.1 == s) = false := by simp [f0]
        have F := hid f0
        clear f0
        go_wp2
        exact ⟨⟨k + 1, by omega, by go_num, ix_step hno HP.out (fun h => F.out h.1)⟩, by simp [intOf]; omega⟩
    · go_wp2
      go_ret
      exact ⟨_, rfl, .inl ⟨rfl, fun i p hp => hno.out i p (by have := (List.getElem?_eq_some_iff.1 hp).1; have := HN.out; omega) hp⟩, rfl⟩

end Go.Proofs.YtgiiegppaleldaaGreatDoor
