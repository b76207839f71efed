import Derived.Test.YtgiiegppaleldaaGreatDoorRows
import Derived.Test.YtgiiegppaleldaaGreatDoorL0
import Derived.Deep.QuietTactic
import Derived.BigQuiet
namespace Go.Proofs.YtgiiegppaleldaaGreatDoor
open Go.RowKit

def pickI (c n : Int) : Int := (if c < 0 then -(c + 1) else c) % n

set_option maxHeartbeats 400000 in
theorem pick_any (c n : Int) (w : World) (c1 : -9223372036854775808 ≤ c) (c2 : c ≤ 9223372036854775807) (n1 : 0 < n) (n2 : n ≤ 9223372036854775807) :
    Calls Tryz.prog 9 #[.int .i64 c, .int .i64 n] w fun e w' => e = .returned (.int .i64 (pickI c n)) ∧ w' = w := by
  have hb : (n == 0) = false := beq_eq_false_iff_ne.2 (by omega)
  by_cases h : c < 0
  · have e1 : Hid ((-(c + 1)).tmod n = pickI c n) := by
      unfold Hid pickI; rw [if_pos h, Int.tmod_eq_emod_of_nonneg (by omega)]
    go_enter Tryz.func9, Tryz.ntmps9
    go_wp2
    go_ret
    refine ⟨?_, rfl⟩
    have e2 : -(c + 1).tmod n = pickI c n := by rw [← e1.out, Int.neg_tmod]
    exact ret_int e2
  · have e1 : Hid (c % n = pickI c n) := by unfold Hid pickI; rw [if_neg h]
    go_enter Tryz.func9, Tryz.ntmps9
    go_wp2
    go_ret
    exact ⟨ret_int e1.out, rfl⟩

def inI (n lo hi : Int) : Bool := decide (lo ≤ n ∧ n ≤ hi)

set_option maxHeartbeats 400000 in
theorem in_any (n lo hi : Int) (w : World) :
    Calls Tryz.prog 61 #[.int .i64 n, .int .i64 lo, .int .i64 hi] w fun e w' => e = .returned (.bool (inI n lo hi)) ∧ w' = w := by
  by_cases h : lo ≤ n
  · go_enter Tryz.func61, Tryz.ntmps61
    go_wp2
    go_ret
    exact ⟨ret_bool (by simp [inI, h]), rfl⟩
  · have hd : decide (lo ≤ n) = false := by simpa using h
    go_enter Tryz.func61, Tryz.ntmps61
    go_wp2
    go_ret
    exact ⟨ret_bool (by simp [inI]; omega), rfl⟩

set_option maxHeartbeats 400000 in
theorem samePlace_any (a b c d : Int) (w : World) :
    Calls Tryz.prog 41 #[.agg #[.int .i64 a, .int .i64 b], .agg #[.int .i64 c, .int .i64 d]] w fun e w' => e = .returned (.bool (decide (a = c ∧ b = d))) ∧ Below w.heap.size w w' := by
  by_cases h : a = c
  · subst h
    go_enter Tryz.func41, Tryz.ntmps41
    go_wp2
    go_ret
    exact ⟨ret_bool (by simp; rfl), ((Below.refl _ _).alloc (Nat.le_refl _) _).alloc (by simp) _⟩
  · have hd : (a == c) = false := by simpa using h
    go_enter Tryz.func41, Tryz.ntmps41
    go_wp2
    go_ret
    exact ⟨ret_bool (by simp [h]), ((Below.refl _ _).alloc (Nat.le_refl _) _).alloc (by simp) _⟩

set_option maxHeartbeats 400000 in
theorem samePass_any (a b c d a' b' c' d' : Int) (w : World) :
    Calls Tryz.prog 42 #[.agg #[.int .i64 a, .int .i64 b, .int .i64 c, .int .i64 d], .agg #[.int .i64 a', .int .i64 b', .int .i64 c', .int .i64 d']] w fun e w' => e = .returned (.bool (decide (a = a' ∧ b = b' ∧ c = c' ∧ d = d'))) ∧ Below w.heap.size w w' := by
  by_cases h : a = a'
  · subst h
    by_cases h : b = b'
    · subst h
      by_cases h : c = c'
      · subst h
        go_enter Tryz.func42, Tryz.ntmps42
        go_wp2
        go_ret
        exact ⟨ret_bool (by simp; rfl), ((Below.refl _ _).alloc (Nat.le_refl _) _).alloc (by simp) _⟩
      · have hd : (c == c') = false := by simpa using h
        go_enter Tryz.func42, Tryz.ntmps42
        go_wp2
        go_ret
        exact ⟨ret_bool (by simp [h]), ((Below.refl _ _).alloc (Nat.le_refl _) _).alloc (by simp) _⟩
    · have hd : (b == b') = false := by simpa using h
      go_enter Tryz.func42, Tryz.ntmps42
      go_wp2
      go_ret
      exact ⟨ret_bool (by simp [h]), ((Below.refl _ _).alloc (Nat.le_refl _) _).alloc (by simp) _⟩
  · have hd : (a == a') = false := by simpa using h
    go_enter Tryz.func42, Tryz.ntmps42
    go_wp2
    go_ret
    exact ⟨ret_bool (by simp [h]), ((Below.refl _ _).alloc (Nat.le_refl _) _).alloc (by simp) _⟩

set_option maxHeartbeats 400000 in
theorem sameLeaf_any (a b c d a' b' c' d' : Int) (w : World) :
    Calls Tryz.prog 43 #[.agg #[.int .i64 a, .int .i64 b, .int .i64 c, .int .i64 d], .agg #[.int .i64 a', .int .i64 b', .int .i64 c', .int .i64 d']] w fun e w' => e = .returned (.bool (decide (a = a' ∧ b = b' ∧ c = c' ∧ d = d'))) ∧ Below w.heap.size w w' := by
  by_cases h : a = a'
  · subst h
    by_cases h : b = b'
    · subst h
      by_cases h : c = c'
      · subst h
        go_enter Tryz.func43, Tryz.ntmps43
        go_wp2
        go_ret
        exact ⟨ret_bool (by simp; rfl), ((Below.refl _ _).alloc (Nat.le_refl _) _).alloc (by simp) _⟩
      · have hd : (c == c') = false := by simpa using h
        go_enter Tryz.func43, Tryz.ntmps43
        go_wp2
        go_ret
        exact ⟨ret_bool (by simp [h]), ((Below.refl _ _).alloc (Nat.le_refl _) _).alloc (by simp) _⟩
    · have hd : (b == b') = false := by simpa using h
      go_enter Tryz.func43, Tryz.ntmps43
      go_wp2
      go_ret
      exact ⟨ret_bool (by simp [h]), ((Below.refl _ _).alloc (Nat.le_refl _) _).alloc (by simp) _⟩
  · have hd : (a == a') = false := by simpa using h
    go_enter Tryz.func43, Tryz.ntmps43
    go_wp2
    go_ret
    exact ⟨ret_bool (by simp [h]), ((Below.refl _ _).alloc (Nat.le_refl _) _).alloc (by simp) _⟩

theorem marked_cell {w : World} {e : TypeId} {P : List Value} {g n cap : Nat} (h : w.ownsRow 0 e P.length (.slice (some ⟨g, 0, none⟩) n cap) n (rep n P)) (k j : Nat) (hk : k < n) (hj : j < P.length) :
    w.cell? ⟨g, k * P.length + j, none⟩ = P[j]? := by
  rw [h.cellAt (k * P.length + j) (by have : (k + 1) * P.length ≤ n * P.length := Nat.mul_le_mul_right _ hk; rw [Nat.succ_mul] at this; omega)]
  exact rep_get n P k j hk hj

set_option maxHeartbeats 400000 in
theorem allNumbers_any (v : Value) (mark : Int) (w : World) (m0 : 0 ≤ mark) (m1 : mark ≤ 4611686018427387904) (hm : Marked w 2 [.int .i64 (-1000 - mark)] v) :
    Calls Tryz.prog 74 #[v, .int .i64 mark] w fun e w' => e = .returned (.bool true) ∧ w' = w := by
  obtain ⟨n, hown⟩ := hm
  rcases hown.2 with ⟨rfl, rfl⟩ | ⟨g, cap, cur, rfl, _, hg, hnc, hcm, hcs, htake⟩
  · clear hown
    go_enter Tryz.func74, Tryz.ntmps74
    go_wp2
    go_loop [5] (fun i => i = .int .i64 0) (fun i => 0)
    case atStart => rfl
    case round =>
      subst hrel
      go_wp2
      go_ret
      exact ⟨rfl, rfl⟩
  · have hl : n ≤ 9223372036854775807 := by unfold maxLen at hcm; omega
    have hc : ∀ k, k < n → w.cell? ⟨g, k, none⟩ = some (.int .i64 (-1000 - mark)) := fun k hk => by
      have := marked_cell hown k 0 hk (by simp); simpa using this
    clear hown htake hcs hg
    go_enter Tryz.func74, Tryz.ntmps74
    go_wp2
    go_loop [5] (fun i => ∃ k : Nat, k ≤ n ∧ i = .int .i64 k) (fun i => n - (intOf i).toNat)
    case atStart => exact ⟨0, Nat.zero_le _, rfl⟩
    case round =>
      obtain ⟨k, hk, rfl⟩ := hrel
      by_cases hlt : k < n
      · have hcell := hc k hlt
        go_wp2
        exact ⟨⟨k + 1, by omega, by go_num⟩, by simp [intOf]; omega⟩
      · go_wp2
        go_ret
        exact ⟨rfl, rfl⟩

set_option maxHeartbeats 400000 in
theorem allPasses_any (v : Value) (mark : Int) (w : World) (m0 : 0 ≤ mark) (m1 : mark ≤ 4611686018427387904) (hm : Marked w 67 [.int .i64 0, .int .i64 (-1000 - mark), .int .i64 0, .int .i64 0] v) :
    Calls Tryz.prog 75 #[v, .int .i64 mark] w fun e w' => e = .returned (.bool true) ∧ w' = w := by
  obtain ⟨n, hown⟩ := hm
  rcases hown.2 with ⟨rfl, rfl⟩ | ⟨g, cap, cur, rfl, _, hg, hnc, hcm, hcs, htake⟩
  · clear hown
    go_enter Tryz.func75, Tryz.ntmps75
    go_wp2
    go_loop [5] (fun i => i = .int .i64 0) (fun i => 0)
    case atStart => rfl
    case round =>
      subst hrel
      go_wp2
      go_ret
      exact ⟨rfl, rfl⟩
  · have hl : n ≤ 9223372036854775807 := by unfold maxLen at hcm; omega
    have hc0 : ∀ k, k < n → w.cell? ⟨g, k * 4, none⟩ = some (.int .i64 0) := fun k hk => by
      have := marked_cell hown k 0 hk (by simp); simpa using this
    have hc1 : ∀ k, k < n → w.cell? ⟨g, k * 4 + 1, none⟩ = some (.int .i64 (-1000 - mark)) := fun k hk => by
      have := marked_cell hown k 1 hk (by simp); simpa using this
    have hc2 : ∀ k, k < n → w.cell? ⟨g, k * 4 + 2, none⟩ = some (.int .i64 0) := fun k hk => by
      have := marked_cell hown k 2 hk (by simp); simpa using this
    have hc3 : ∀ k, k < n → w.cell? ⟨g, k * 4 + 3, none⟩ = some (.int .i64 0) := fun k hk => by
      have := marked_cell hown k 3 hk (by simp); simpa using this
    clear hown htake hcs hg
    go_enter Tryz.func75, Tryz.ntmps75
    go_wp2
    go_loop [5] (fun i => ∃ k : Nat, k ≤ n ∧ i = .int .i64 k) (fun i => n - (intOf i).toNat)
    case atStart => exact ⟨0, Nat.zero_le _, rfl⟩
    case round =>
      obtain ⟨k, hk, rfl⟩ := hrel
      by_cases hlt : k < n
      · have hcell0 := hc0 k hlt
        have hcell1 := hc1 k hlt
        have hcell2 := hc2 k hlt
        have hcell3 := hc3 k hlt
        go_wp2
        exact ⟨⟨k + 1, by omega, by go_num⟩, by simp [intOf]; omega⟩
      · go_wp2
        go_ret
        exact ⟨rfl, rfl⟩

set_option maxHeartbeats 400000 in
theorem allLeaves_any (v : Value) (mark : Int) (w : World) (m0 : 0 ≤ mark) (m1 : mark ≤ 4611686018427387904) (hm : Marked w 69 [.int .i64 0, .int .i64 (-1000 - mark), .int .i64 0, .int .i64 0] v) :
    Calls Tryz.prog 76 #[v, .int .i64 mark] w fun e w' => e = .returned (.bool true) ∧ w' = w := by
  obtain ⟨n, hown⟩ := hm
  rcases hown.2 with ⟨rfl, rfl⟩ | ⟨g, cap, cur, rfl, _, hg, hnc, hcm, hcs, htake⟩
  · clear hown
    go_enter Tryz.func76, Tryz.ntmps76
    go_wp2
    go_loop [5] (fun i => i = .int .i64 0) (fun i => 0)
    case atStart => rfl
    case round =>
      subst hrel
      go_wp2
      go_ret
      exact ⟨rfl, rfl⟩
  · have hl : n ≤ 9223372036854775807 := by unfold maxLen at hcm; omega
    have hc0 : ∀ k, k < n → w.cell? ⟨g, k * 4, none⟩ = some (.int .i64 0) := fun k hk => by
      have := marked_cell hown k 0 hk (by simp); simpa using this
    have hc1 : ∀ k, k < n → w.cell? ⟨g, k * 4 + 1, none⟩ = some (.int .i64 (-1000 - mark)) := fun k hk => by
      have := marked_cell hown k 1 hk (by simp); simpa using this
    have hc2 : ∀ k, k < n → w.cell? ⟨g, k * 4 + 2, none⟩ = some (.int .i64 0) := fun k hk => by
      have := marked_cell hown k 2 hk (by simp); simpa using this
    have hc3 : ∀ k, k < n → w.cell? ⟨g, k * 4 + 3, none⟩ = some (.int .i64 0) := fun k hk => by
      have := marked_cell hown k 3 hk (by simp); simpa using this
    clear hown htake hcs hg
    go_enter Tryz.func76, Tryz.ntmps76
    go_wp2
    go_loop [5] (fun i => ∃ k : Nat, k ≤ n ∧ i = .int .i64 k) (fun i => n - (intOf i).toNat)
    case atStart => exact ⟨0, Nat.zero_le _, rfl⟩
    case round =>
      obtain ⟨k, hk, rfl⟩ := hrel
      by_cases hlt : k < n
      · have hcell0 := hc0 k hlt
        have hcell1 := hc1 k hlt
        have hcell2 := hc2 k hlt
        have hcell3 := hc3 k hlt
        go_wp2
        exact ⟨⟨k + 1, by omega, by go_num⟩, by simp [intOf]; omega⟩
      · go_wp2
        go_ret
        exact ⟨rfl, rfl⟩

set_option maxHeartbeats 400000 in
theorem stillNumbers_any (v0 v1 v2 v3 : Value) (mark : Int) (w : World) (m0 : 0 ≤ mark) (m1 : mark ≤ 4611686018427387904)
    (h0 : Marked w 2 [.int .i64 (-1000 - mark)] v0) (h1 : Marked w 2 [.int .i64 (-1000 - mark)] v1) (h2 : Marked w 2 [.int .i64 (-1000 - mark)] v2) (h3 : Marked w 2 [.int .i64 (-1000 - mark)] v3) :
    Calls Tryz.prog 36 #[.agg #[v0, v1, v2, v3, .int .i64 mark]] w fun e w' => e = .returned (.bool true) ∧ Below w.heap.size w w' := by
  have k0 := h0.kept ((Fr.refl (fun _ => False) w).alloc (.cells #[v0, v1, v2, v3, .int .i64 mark] 83)) (fun _ _ h => h)
  have k1 := h1.kept ((Fr.refl (fun _ => False) w).alloc (.cells #[v0, v1, v2, v3, .int .i64 mark] 83)) (fun _ _ h => h)
  have k2 := h2.kept ((Fr.refl (fun _ => False) w).alloc (.cells #[v0, v1, v2, v3, .int .i64 mark] 83)) (fun _ _ h => h)
  have k3 := h3.kept ((Fr.refl (fun _ => False) w).alloc (.cells #[v0, v1, v2, v3, .int .i64 mark] 83)) (fun _ _ h => h)
  have K0 := hid k0
  have K1 := hid k1
  have K2 := hid k2
  have K3 := hid k3
  clear k0 k1 k2 k3 h0 h1 h2 h3
  go_enter Tryz.func36, Tryz.ntmps36
  go_wp2_with fail
  refine (allNumbers_any v0 mark _ m0 m1 K0.out).mono ?_
  rintro e w' ⟨rfl, rfl⟩
  go_wp2_with fail
  refine (allNumbers_any v1 mark _ m0 m1 K1.out).mono ?_
  rintro e w' ⟨rfl, rfl⟩
  go_wp2_with fail
  refine (allNumbers_any v2 mark _ m0 m1 K2.out).mono ?_
  rintro e w' ⟨rfl, rfl⟩
  go_wp2_with fail
  refine (allNumbers_any v3 mark _ m0 m1 K3.out).mono ?_
  rintro e w' ⟨rfl, rfl⟩
  go_wp2
  go_ret
  exact ⟨rfl, (Below.refl _ _).alloc (Nat.le_refl _) _⟩

set_option maxHeartbeats 400000 in
theorem stillPasses_any (v0 v1 v2 v3 : Value) (mark : Int) (w : World) (m0 : 0 ≤ mark) (m1 : mark ≤ 4611686018427387904)
    (h0 : Marked w 67 [.int .i64 0, .int .i64 (-1000 - mark), .int .i64 0, .int .i64 0] v0) (h1 : Marked w 67 [.int .i64 0, .int .i64 (-1000 - mark), .int .i64 0, .int .i64 0] v1) (h2 : Marked w 67 [.int .i64 0, .int .i64 (-1000 - mark), .int .i64 0, .int .i64 0] v2) (h3 : Marked w 67 [.int .i64 0, .int .i64 (-1000 - mark), .int .i64 0, .int .i64 0] v3) :
    Calls Tryz.prog 37 #[.agg #[v0, v1, v2, v3, .int .i64 mark]] w fun e w' => e = .returned (.bool true) ∧ Below w.heap.size w w' := by
  have k0 := h0.kept ((Fr.refl (fun _ => False) w).alloc (.cells #[v0, v1, v2, v3, .int .i64 mark] 85)) (fun _ _ h => h)
  have k1 := h1.kept ((Fr.refl (fun _ => False) w).alloc (.cells #[v0, v1, v2, v3, .int .i64 mark] 85)) (fun _ _ h => h)
  have k2 := h2.kept ((Fr.refl (fun _ => False) w).alloc (.cells #[v0, v1, v2, v3, .int .i64 mark] 85)) (fun _ _ h => h)
  have k3 := h3.kept ((Fr.refl (fun _ => False) w).alloc (.cells #[v0, v1, v2, v3, .int .i64 mark] 85)) (fun _ _ h => h)
  have K0 := hid k0
  have K1 := hid k1
  have K2 := hid k2
  have K3 := hid k3
  clear k0 k1 k2 k3 h0 h1 h2 h3
  go_enter Tryz.func37, Tryz.ntmps37
  go_wp2_with fail
  refine (allPasses_any v0 mark _ m0 m1 K0.out).mono ?_
  rintro e w' ⟨rfl, rfl⟩
  go_wp2_with fail
  refine (allPasses_any v1 mark _ m0 m1 K1.out).mono ?_
  rintro e w' ⟨rfl, rfl⟩
  go_wp2_with fail
  refine (allPasses_any v2 mark _ m0 m1 K2.out).mono ?_
  rintro e w' ⟨rfl, rfl⟩
  go_wp2_with fail
  refine (allPasses_any v3 mark _ m0 m1 K3.out).mono ?_
  rintro e w' ⟨rfl, rfl⟩
  go_wp2
  go_ret
  exact ⟨rfl, (Below.refl _ _).alloc (Nat.le_refl _) _⟩

set_option maxHeartbeats 400000 in
theorem stillLeaves_any (v0 v1 v2 v3 : Value) (mark : Int) (w : World) (m0 : 0 ≤ mark) (m1 : mark ≤ 4611686018427387904)
    (h0 : Marked w 69 [.int .i64 0, .int .i64 (-1000 - mark), .int .i64 0, .int .i64 0] v0) (h1 : Marked w 69 [.int .i64 0, .int .i64 (-1000 - mark), .int .i64 0, .int .i64 0] v1) (h2 : Marked w 69 [.int .i64 0, .int .i64 (-1000 - mark), .int .i64 0, .int .i64 0] v2) (h3 : Marked w 69 [.int .i64 0, .int .i64 (-1000 - mark), .int .i64 0, .int .i64 0] v3) :
    Calls Tryz.prog 38 #[.agg #[v0, v1, v2, v3, .int .i64 mark]] w fun e w' => e = .returned (.bool true) ∧ Below w.heap.size w w' := by
  have k0 := h0.kept ((Fr.refl (fun _ => False) w).alloc (.cells #[v0, v1, v2, v3, .int .i64 mark] 87)) (fun _ _ h => h)
  have k1 := h1.kept ((Fr.refl (fun _ => False) w).alloc (.cells #[v0, v1, v2, v3, .int .i64 mark] 87)) (fun _ _ h => h)
  have k2 := h2.kept ((Fr.refl (fun _ => False) w).alloc (.cells #[v0, v1, v2, v3, .int .i64 mark] 87)) (fun _ _ h => h)
  have k3 := h3.kept ((Fr.refl (fun _ => False) w).alloc (.cells #[v0, v1, v2, v3, .int .i64 mark] 87)) (fun _ _ h => h)
  have K0 := hid k0
  have K1 := hid k1
  have K2 := hid k2
  have K3 := hid k3
  clear k0 k1 k2 k3 h0 h1 h2 h3
  go_enter Tryz.func38, Tryz.ntmps38
  go_wp2_with fail
  refine (allLeaves_any v0 mark _ m0 m1 K0.out).mono ?_
  rintro e w' ⟨rfl, rfl⟩
  go_wp2_with fail
  refine (allLeaves_any v1 mark _ m0 m1 K1.out).mono ?_
  rintro e w' ⟨rfl, rfl⟩
  go_wp2_with fail
  refine (allLeaves_any v2 mark _ m0 m1 K2.out).mono ?_
  rintro e w' ⟨rfl, rfl⟩
  go_wp2_with fail
  refine (allLeaves_any v3 mark _ m0 m1 K3.out).mono ?_
  rintro e w' ⟨rfl, rfl⟩
  go_wp2
  go_ret
  exact ⟨rfl, (Below.refl _ _).alloc (Nat.le_refl _) _⟩

end Go.Proofs.YtgiiegppaleldaaGreatDoor
