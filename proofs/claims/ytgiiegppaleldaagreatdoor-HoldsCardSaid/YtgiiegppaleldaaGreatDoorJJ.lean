import Derived.Test.YtgiiegppaleldaaGreatDoorII
/- addPass, addLeaf. -/
namespace Go.Proofs.YtgiiegppaleldaaGreatDoor
open Go.RowKit

theorem find_append (Q : List (Int × Int × Int × Int)) (p : Int × Int × Int × Int) (s n : Int) : findQ (Q ++ [p]) s n = (findQ Q s n).or (if p.1 = s ∧ p.2.1 = n then some p else none) := by
  unfold findQ
  rw [List.find?_append]
  congr 1
  by_cases h : p.1 = s ∧ p.2.1 = n
  · rw [if_pos h]; simp [h.1, h.2]
  · rw [if_neg h, List.find?_cons]
    have : (p.1 == s && p.2.1 == n) = false := by
      rw [Bool.and_eq_false_iff]
      by_cases h1 : p.1 = s
      · right; simp; exact fun h2 => h ⟨h1, h2⟩
      · left; simpa using h1
    rw [this]; rfl

theorem six_set (Q : List (Int × Int × Int × Int)) (s : Int) (j : Nat) (hj : j < 6) (a b : Int) (hn : findQ Q s j = none) : six (Q ++ [(s, (j : Int), a, b)]) s = ((six Q s).set (j * 2) (.int .i64 a)).set (j * 2 + 1) (.int .i64 b) := by
  have hf : ∀ i : Int, findQ (Q ++ [(s, (j : Int), a, b)]) s i = if (j : Int) = i then some (s, (j : Int), a, b) else findQ Q s i := by
    intro i
    rw [find_append]
    by_cases e : (j : Int) = i
    · subst e; simp [hn]
    · simp [e]
  have h6 : j = 0 ∨ j = 1 ∨ j = 2 ∨ j = 3 ∨ j = 4 ∨ j = 5 := by omega
  rw [six_eq, six_eq]
  simp only [hf]
  rcases h6 with rfl | rfl | rfl | rfl | rfl | rfl <;> simp [pa, pb]

theorem six_other (Q : List (Int × Int × Int × Int)) (s s' : Int) (j a b : Int) (hne : s ≠ s') : six (Q ++ [(s, j, a, b)]) s' = six Q s' := by
  have hf : ∀ i : Int, findQ (Q ++ [(s, j, a, b)]) s' i = findQ Q s' i := by
    intro i; rw [find_append]; simp [hne]
  rw [six_eq, six_eq]
  simp only [hf]

theorem rows_passes (n : Nat) (Q L : List (Int × Int × Int × Int)) (s j : Nat) (hs : s < n) (hj : j < 6) (a b : Int) (hn : findQ Q s j = none) :
    (spRows n Q L).set s (((spRow Q L s).set (j * 2) (.int .i64 a)).set (j * 2 + 1) (.int .i64 b)) = spRows n (Q ++ [((s : Int), (j : Int), a, b)]) L := by
  apply List.ext_getElem?
  intro i
  rw [List.getElem?_set]
  unfold spRows
  by_cases e : s = i
  · subst e
    rw [if_pos rfl]
    simp [hs, spRow, six_set Q s j hj a b hn]
    rw [List.set_append_left _ _ (by rw [six_len]; omega), List.set_append_left _ _ (by rw [List.length_set, six_len]; omega)]
  · rw [if_neg e]
    simp only [List.getElem?_map]
    rcases Nat.lt_or_ge i n with hi | hi
    · rw [List.getElem?_range hi]
      simp only [Option.map_some, spRow]
      rw [six_other Q (s : Int) (i : Int) _ _ _ (by omega)]
    · rw [List.getElem?_eq_none (by simpa using hi)]; rfl
theorem rows_leaves (n : Nat) (Q L : List (Int × Int × Int × Int)) (s j : Nat) (hs : s < n) (hj : j < 6) (a b : Int) (hn : findQ L s j = none) :
    (spRows n Q L).set s (((spRow Q L s).set (12 + j * 2) (.int .i64 a)).set (12 + j * 2 + 1) (.int .i64 b)) = spRows n Q (L ++ [((s : Int), (j : Int), a, b)]) := by
  apply List.ext_getElem?
  intro i
  rw [List.getElem?_set]
  unfold spRows
  by_cases e : s = i
  · subst e
    rw [if_pos rfl]
    simp [hs, spRow, six_set L s j hj a b hn]
    rw [List.set_append_right _ _ (by rw [six_len]; omega), List.set_append_right _ _ (by rw [six_len]; omega), six_len]
    rw [show 12 + j * 2 - 12 = j * 2 by omega, show 12 + j * 2 + 1 - 12 = j * 2 + 1 by omega]
  · rw [if_neg e]
    simp only [List.getElem?_map]
    rcases Nat.lt_or_ge i n with hi | hi
    · rw [List.getElem?_range hi]
      simp only [Option.map_some, spRow]
      rw [six_other L (s : Int) (i : Int) _ _ _ (by omega)]
    · rw [List.getElem?_eq_none (by simpa using hi)]; rfl

theorem MAt.setSp {w : World} {x : Nat} {ty : TypeId} {cs : Array Value} {cl : Int × (Nat → Int)} {ts : List (Int × Int × Int × Int)} {n : Nat} {Q L : List (Int × Int × Int × Int)} {ln : Nat → List Nat} {vt : Value} {rv : Nat → Value} {g m c : Nat}
    (h : MAt w x ty cs cl ts n Q L ln vt rv (.slice (some ⟨g, 0, none⟩) m c)) {s j : Nat} (hs : s < n) (hj : j + 1 < 24) {a b : Value} {Q' L' : List (Int × Int × Int × Int)} (hr : (spRows n Q L).set s (((spRow Q L s).set j a).set (j + 1) b) = spRows n Q' L') :
    MAt ((w.setCell ⟨g, s * 24 + j, none⟩ a).setCell ⟨g, s * 24 + (j + 1), none⟩ b) x ty cs cl ts n Q' L' ln vt rv (.slice (some ⟨g, 0, none⟩) m c) ∧ Fr (fun k => k = g) w ((w.setCell ⟨g, s * 24 + j, none⟩ a).setCell ⟨g, s * 24 + (j + 1), none⟩ b) := by
  have F : Fr (fun k => k = g) w ((w.setCell ⟨g, s * 24 + j, none⟩ a).setCell ⟨g, s * 24 + (j + 1), none⟩ b) := ((Fr.refl (fun k => k = g) w).setCell (p := ⟨g, s * 24 + j, none⟩) (fun _ => rfl) _).setCell (p := ⟨g, s * 24 + (j + 1), none⟩) (fun _ => rfl) _
  have hlen : (spRows n Q L).length = n := by simp [spRows]
  have e1 := h.sp.set s j a (by omega) (by omega)
  have e2 := e1.set s (j + 1) b (by simpa using (by omega : s < (spRows n Q L).length)) hj
  have er : (spRows n Q L)[s]'(by omega) = spRow Q L s := by simp [spRows]
  simp only [List.getElem_set_self, er, List.set_set] at e2
  rw [hr] at e2
  refine ⟨⟨(F.block x (Array.getElem?_eq_some_iff.1 h.blk).1 (fun q => h.n3 (by rw [q]; rfl))).trans h.blk, h.size, h.c0, h.c1, h.row, h.c6, h.th.kept F (fun k hk q => h.n6 k hk (by rw [q]; rfl)), fun r hr => (h.li r hr).kept F (fun k hk q => (h.n4 r hr k hk).2 (by rw [q]; rfl)), e2, h.n1, h.n2, h.n3, h.n4, h.n5, h.n6, h.fr⟩, F⟩

theorem sp_cells {w : World} {g m c n : Nat} {Q L : List (Int × Int × Int × Int)} (h : Sl w 216 24 (.slice (some ⟨g, 0, none⟩) m c) (spRows n Q L)) {s j : Nat} (hs : s < n) (hj : j < 6) :
    w.cell? ⟨g, s * 24 + j * 2, none⟩ = some (.int .i64 (pa (findQ Q s j))) ∧ w.cell? ⟨g, s * 24 + j * 2 + 1, none⟩ = some (.int .i64 (pb (findQ Q s j))) ∧
    w.cell? ⟨g, s * 24 + 12 + j * 2, none⟩ = some (.int .i64 (pa (findQ L s j))) ∧ w.cell? ⟨g, s * 24 + 12 + j * 2 + 1, none⟩ = some (.int .i64 (pb (findQ L s j))) := by
  obtain ⟨R1, R2⟩ := sp_range h hs
  rw [six_eq] at R1 R2
  have h6 : j = 0 ∨ j = 1 ∨ j = 2 ∨ j = 3 ∨ j = 4 ∨ j = 5 := by omega
  rcases h6 with rfl | rfl | rfl | rfl | rfl | rfl
  · exact ⟨R1 0 _ rfl, R1 1 _ rfl, R2 0 _ rfl, R2 1 _ rfl⟩
  · exact ⟨R1 2 _ rfl, R1 3 _ rfl, R2 2 _ rfl, R2 3 _ rfl⟩
  · exact ⟨R1 4 _ rfl, R1 5 _ rfl, R2 4 _ rfl, R2 5 _ rfl⟩
  · exact ⟨R1 6 _ rfl, R1 7 _ rfl, R2 6 _ rfl, R2 7 _ rfl⟩
  · exact ⟨R1 8 _ rfl, R1 9 _ rfl, R2 8 _ rfl, R2 9 _ rfl⟩
  · exact ⟨R1 10 _ rfl, R1 11 _ rfl, R2 10 _ rfl, R2 11 _ rfl⟩

set_option maxRecDepth 100000 in
set_option maxHeartbeats 8000000 in
theorem addPass_no (x : Nat) (ty : TypeId) (cs : Array Value) (cl : Int × (Nat → Int)) (ts : List (Int × Int × Int × Int)) (n : Nat) (Q L : List (Int × Int × Int × Int)) (ln : Nat → List Nat) (vt : Value) (rv : Nat → Value) (vs : Value) (s j t r : Int) (w : World)
    (h : MAt w x ty cs cl ts n Q L ln vt rv vs) (hb : ¬ (0 ≤ s ∧ s < n ∧ 0 ≤ j ∧ j < 6 ∧ 0 ≤ t ∧ t < (ts.length : Int) ∧ 1 ≤ r ∧ r ≤ 3)) :
    Calls Tryz.prog 99 #[.pointer (some ⟨x, 0, none⟩), .agg #[.int .i64 s, .int .i64 j, .int .i64 t, .int .i64 r]] w fun e w' => e = .returned (.iface 155 (.agg #[.int .i64 1])) ∧ Below w.heap.size w w' := by
  have hc6 := (h.cell 6).trans h.c6
  have hc1 := (h.cell 1).trans h.c1
  have lx := (Array.getElem?_eq_some_iff.1 h.blk).1
  obtain ⟨a, c, ev⟩ := h.sp.slice
  have hlen : (spRows n Q L).length = n := by simp [spRows]
  rw [hlen] at ev
  obtain ⟨a2, c2, ev2⟩ := h.th.slice
  rw [List.length_map] at ev2
  subst ev ev2
  generalize ts.length = m at *
  clear h hlen
  by_cases h1 : 0 ≤ s ∧ s < (n : Int)
  · have d1 : decide (0 ≤ s ∧ s < (n : Int)) = true := by simpa using h1
    by_cases h2 : 0 ≤ j ∧ j < 6
    · have d2 : decide (0 ≤ j ∧ j < 6) = true := by simpa using h2
      by_cases h3 : 0 ≤ t ∧ t < (m : Int)
      · have d3 : decide (0 ≤ t ∧ t < (m : Int)) = true := by simpa using h3
        have d4 : decide (1 ≤ r ∧ r ≤ 3) = false := by simp; omega
        clear hb h1 h2 h3
        go_enter Tryz.func99, Tryz.ntmps99
        go_wp2_with fail
        go_quiet ((first | (go_at_call 108; exact Calls.quiet_of_same (below_any _ _ _)) | (go_at_call 94; exact Calls.quiet_of_same (between_any _ _ _ _))))
        go_wp2_with (first | (go_at_call 108; refine (below_any _ _ _).mono ?_; rintro e w1 ⟨rfl, rfl⟩) | (go_at_call 94; refine (between_any _ _ _ _).mono ?_; rintro e w1 ⟨rfl, rfl⟩) | (go_at_call 95; refine (noConfig_any _).mono ?_; rintro e w1 ⟨rfl, rfl⟩))
        go_ret
        exact ⟨rfl, below_drewN ((Below.refl _ w).alloc (Nat.le_refl _) _) _⟩
      · have d3 : decide (0 ≤ t ∧ t < (m : Int)) = false := by simpa using h3
        clear hb h1 h2 h3
        go_enter Tryz.func99, Tryz.ntmps99
        go_wp2_with fail
        go_quiet ((first | (go_at_call 108; exact Calls.quiet_of_same (below_any _ _ _)) | (go_at_call 94; exact Calls.quiet_of_same (between_any _ _ _ _))))
        go_wp2_with (first | (go_at_call 108; refine (below_any _ _ _).mono ?_; rintro e w1 ⟨rfl, rfl⟩) | (go_at_call 94; refine (between_any _ _ _ _).mono ?_; rintro e w1 ⟨rfl, rfl⟩) | (go_at_call 95; refine (noConfig_any _).mono ?_; rintro e w1 ⟨rfl, rfl⟩))
        go_ret
        exact ⟨rfl, below_drewN ((Below.refl _ w).alloc (Nat.le_refl _) _) _⟩
    · have d2 : decide (0 ≤ j ∧ j < 6) = false := by simpa using h2
      clear hb h1 h2
      go_enter Tryz.func99, Tryz.ntmps99
      go_wp2_with fail
      go_quiet ((first | (go_at_call 108; exact Calls.quiet_of_same (below_any _ _ _)) | (go_at_call 94; exact Calls.quiet_of_same (between_any _ _ _ _))))
      go_wp2_with (first | (go_at_call 108; refine (below_any _ _ _).mono ?_; rintro e w1 ⟨rfl, rfl⟩) | (go_at_call 94; refine (between_any _ _ _ _).mono ?_; rintro e w1 ⟨rfl, rfl⟩) | (go_at_call 95; refine (noConfig_any _).mono ?_; rintro e w1 ⟨rfl, rfl⟩))
      go_ret
      exact ⟨rfl, below_drewN ((Below.refl _ w).alloc (Nat.le_refl _) _) _⟩
  · have d1 : decide (0 ≤ s ∧ s < (n : Int)) = false := by simpa using h1
    clear hb h1
    go_enter Tryz.func99, Tryz.ntmps99
    go_wp2_with fail
    go_quiet ((first | (go_at_call 108; exact Calls.quiet_of_same (below_any _ _ _)) | (go_at_call 94; exact Calls.quiet_of_same (between_any _ _ _ _))))
    go_wp2_with (first | (go_at_call 108; refine (below_any _ _ _).mono ?_; rintro e w1 ⟨rfl, rfl⟩) | (go_at_call 94; refine (between_any _ _ _ _).mono ?_; rintro e w1 ⟨rfl, rfl⟩) | (go_at_call 95; refine (noConfig_any _).mono ?_; rintro e w1 ⟨rfl, rfl⟩))
    go_ret
    exact ⟨rfl, below_drewN ((Below.refl _ w).alloc (Nat.le_refl _) _) _⟩

set_option maxRecDepth 100000 in
set_option maxHeartbeats 8000000 in
theorem addPass_two (x : Nat) (ty : TypeId) (cs : Array Value) (cl : Int × (Nat → Int)) (ts : List (Int × Int × Int × Int)) (n : Nat) (Q L : List (Int × Int × Int × Int)) (ln : Nat → List Nat) (vt : Value) (rv : Nat → Value) (vs : Value) (s j : Nat) (t r : Int) (w : World)
    (h : MAt w x ty cs cl ts n Q L ln vt rv vs) (hs : s < n) (hj : j < 6) (ht0 : 0 ≤ t) (ht1 : t < (ts.length : Int)) (hr0 : 1 ≤ r) (hr1 : r ≤ 3) (hn : pb (findQ Q s j) ≠ 0) :
    Calls Tryz.prog 99 #[.pointer (some ⟨x, 0, none⟩), .agg #[.int .i64 s, .int .i64 j, .int .i64 t, .int .i64 r]] w fun e w' => e = .returned (.iface 155 (.agg #[.int .i64 1])) ∧ Below w.heap.size w w' := by
  have hc6 := (h.cell 6).trans h.c6
  have hc1 := (h.cell 1).trans h.c1
  have lx := (Array.getElem?_eq_some_iff.1 h.blk).1
  obtain ⟨a, c, ev⟩ := h.sp.slice
  have hlen : (spRows n Q L).length = n := by simp [spRows]
  rw [hlen] at ev
  obtain ⟨a2, c2, ev2⟩ := h.th.slice
  rw [List.length_map] at ev2
  subst ev ev2
  obtain ⟨g, ea, hx⟩ := h.sp.is_some (by omega)
  clear hx
  subst ea
  have K := sp_cells h.sp hs hj
  have kp := K.1
  have kq := K.2.1
  have lg : g < w.heap.size := h.sp.lt rfl
  have d1 : decide (0 ≤ (s : Int) ∧ (s : Int) < (n : Int)) = true := by simp; omega
  have d2 : decide (0 ≤ (j : Int) ∧ (j : Int) < 6) = true := by simp; omega
  have d3 : decide (0 ≤ t ∧ t < (ts.length : Int)) = true := by simp; omega
  have d4 : decide (1 ≤ r ∧ r ≤ 3) = true := by simp; omega
  have sn : (s : Int) < (n : Int) := by omega
  have j6 : (j : Int) < 6 := by omega
  generalize pb (findQ Q s j) = B at *
  generalize pa (findQ Q s j) = A at *
  generalize ts.length = m at *
  have hB : (B != 0) = true := by simpa using hn
  clear h hlen K hn
  go_enter Tryz.func99, Tryz.ntmps99
  go_wp2_with fail
  go_quiet ((first | (go_at_call 108; exact Calls.quiet_of_same (below_any _ _ _)) | (go_at_call 94; exact Calls.quiet_of_same (between_any _ _ _ _))))
  go_wp2_with (first | (go_at_call 108; refine (below_any _ _ _).mono ?_; rintro e w1 ⟨rfl, rfl⟩) | (go_at_call 94; refine (between_any _ _ _ _).mono ?_; rintro e w1 ⟨rfl, rfl⟩) | (go_at_call 95; refine (noConfig_any _).mono ?_; rintro e w1 ⟨rfl, rfl⟩))
  go_quiet (fail)
  go_wp2_with (first | (go_at_call 108; refine (below_any _ _ _).mono ?_; rintro e w1 ⟨rfl, rfl⟩) | (go_at_call 94; refine (between_any _ _ _ _).mono ?_; rintro e w1 ⟨rfl, rfl⟩) | (go_at_call 95; refine (noConfig_any _).mono ?_; rintro e w1 ⟨rfl, rfl⟩))
  go_ret
  exact ⟨rfl, below_drewN ((Below.refl _ w).alloc (Nat.le_refl _) _) _⟩

set_option maxRecDepth 100000 in
set_option maxHeartbeats 8000000 in
theorem addPass_yes (x : Nat) (ty : TypeId) (cs : Array Value) (cl : Int × (Nat → Int)) (ts : List (Int × Int × Int × Int)) (n : Nat) (Q L : List (Int × Int × Int × Int)) (ln : Nat → List Nat) (vt : Value) (rv : Nat → Value) (vs : Value) (s j : Nat) (t r : Int) (w : World)
    (h : MAt w x ty cs cl ts n Q L ln vt rv vs) (hs : s < n) (hj : j < 6) (ht0 : 0 ≤ t) (ht1 : t < (ts.length : Int)) (hr0 : 1 ≤ r) (hr1 : r ≤ 3) (hn : findQ Q s j = none) :
    Calls Tryz.prog 99 #[.pointer (some ⟨x, 0, none⟩), .agg #[.int .i64 s, .int .i64 j, .int .i64 t, .int .i64 r]] w fun e w' => e = .returned .nilIface ∧ MAt w' x ty cs cl ts n (Q ++ [((s : Int), (j : Int), t, r)]) L ln vt rv vs ∧ Fr (MOwn x vt rv vs) w w' := by
  have hc6 := (h.cell 6).trans h.c6
  have hc1 := (h.cell 1).trans h.c1
  have lx := (Array.getElem?_eq_some_iff.1 h.blk).1
  obtain ⟨a, c, ev⟩ := h.sp.slice
  have hlen : (spRows n Q L).length = n := by simp [spRows]
  rw [hlen] at ev
  obtain ⟨a2, c2, ev2⟩ := h.th.slice
  rw [List.length_map] at ev2
  subst ev ev2
  obtain ⟨g, ea, hx⟩ := h.sp.is_some (by omega)
  clear hx
  subst ea
  have K := sp_cells h.sp hs hj
  have kp := K.1
  have kq := K.2.1
  have lg : g < w.heap.size := h.sp.lt rfl
  have d1 : decide (0 ≤ (s : Int) ∧ (s : Int) < (n : Int)) = true := by simp; omega
  have d2 : decide (0 ≤ (j : Int) ∧ (j : Int) < 6) = true := by simp; omega
  have d3 : decide (0 ≤ t ∧ t < (ts.length : Int)) = true := by simp; omega
  have d4 : decide (1 ≤ r ∧ r ≤ 3) = true := by simp; omega
  have sn : (s : Int) < (n : Int) := by omega
  have j6 : (j : Int) < 6 := by omega
  rw [hn] at kp kq
  simp only [pa, pb] at kp kq
  have fp := h.sp.fro (s * 24 + j * 2)
  have fq := h.sp.fro (s * 24 + j * 2 + 1)
  have RW := rows_passes n Q L s j hs hj t r hn
  generalize ts.length = m at *
  have HM := hid (And.intro h RW)
  clear h hlen K hn RW
  go_enter Tryz.func99, Tryz.ntmps99
  go_wp2_with fail
  go_quiet ((first | (go_at_call 108; exact Calls.quiet_of_same (below_any _ _ _)) | (go_at_call 94; exact Calls.quiet_of_same (between_any _ _ _ _))))
  go_wp2_with (first | (go_at_call 108; refine (below_any _ _ _).mono ?_; rintro e w1 ⟨rfl, rfl⟩) | (go_at_call 94; refine (between_any _ _ _ _).mono ?_; rintro e w1 ⟨rfl, rfl⟩) | (go_at_call 95; refine (noConfig_any _).mono ?_; rintro e w1 ⟨rfl, rfl⟩))
  go_quiet (fail)
  go_wp2_with (first | (go_at_call 108; refine (below_any _ _ _).mono ?_; rintro e w1 ⟨rfl, rfl⟩) | (go_at_call 94; refine (between_any _ _ _ _).mono ?_; rintro e w1 ⟨rfl, rfl⟩) | (go_at_call 95; refine (noConfig_any _).mono ?_; rintro e w1 ⟨rfl, rfl⟩))
  go_ret
  have S := fun q => (HM.out.1.below (below_drewN ((Below.refl _ w).alloc (Nat.le_refl _) (.cells #[.int .i64 s, .int .i64 j, .int .i64 t, .int .i64 r] 67)) q)).setSp hs (by omega) HM.out.2
  simp only [← Nat.add_assoc] at S
  refine ⟨rfl, (S _).1, (Fr.of_below (below_drewN ((Below.refl _ w).alloc (Nat.le_refl _) _) _) _).trans ((S _).2.mono (fun k _ e => .inr (.inr (.inr (by rw [e]; rfl)))))⟩

set_option maxRecDepth 100000 in
set_option maxHeartbeats 8000000 in
theorem addLeaf_no (x : Nat) (ty : TypeId) (cs : Array Value) (cl : Int × (Nat → Int)) (ts : List (Int × Int × Int × Int)) (n : Nat) (Q L : List (Int × Int × Int × Int)) (ln : Nat → List Nat) (vt : Value) (rv : Nat → Value) (vs : Value) (s j t r : Int) (w : World)
    (h : MAt w x ty cs cl ts n Q L ln vt rv vs) (hb : ¬ (0 ≤ s ∧ s < n ∧ 0 ≤ j ∧ j < 6 ∧ 0 ≤ t ∧ t < 8 ∧ 1 ≤ r ∧ r ≤ 3)) :
    Calls Tryz.prog 101 #[.pointer (some ⟨x, 0, none⟩), .agg #[.int .i64 s, .int .i64 j, .int .i64 t, .int .i64 r]] w fun e w' => e = .returned (.iface 155 (.agg #[.int .i64 1])) ∧ Below w.heap.size w w' := by
  have hc6 := (h.cell 6).trans h.c6
  have hc1 := (h.cell 1).trans h.c1
  have lx := (Array.getElem?_eq_some_iff.1 h.blk).1
  obtain ⟨a, c, ev⟩ := h.sp.slice
  have hlen : (spRows n Q L).length = n := by simp [spRows]
  rw [hlen] at ev
  obtain ⟨a2, c2, ev2⟩ := h.th.slice
  rw [List.length_map] at ev2
  subst ev ev2
  skip
  clear h hlen
  by_cases h1 : 0 ≤ s ∧ s < (n : Int)
  · have d1 : decide (0 ≤ s ∧ s < (n : Int)) = true := by simpa using h1
    by_cases h2 : 0 ≤ j ∧ j < 6
    · have d2 : decide (0 ≤ j ∧ j < 6) = true := by simpa using h2
      by_cases h3 : 0 ≤ t ∧ t < 8
      · have d3 : decide (0 ≤ t ∧ t < 8) = true := by simpa using h3
        have d4 : decide (1 ≤ r ∧ r ≤ 3) = false := by simp; omega
        clear hb h1 h2 h3
        go_enter Tryz.func101, Tryz.ntmps101
        go_wp2_with fail
        go_quiet ((first | (go_at_call 108; exact Calls.quiet_of_same (below_any _ _ _)) | (go_at_call 94; exact Calls.quiet_of_same (between_any _ _ _ _))))
        go_wp2_with (first | (go_at_call 108; refine (below_any _ _ _).mono ?_; rintro e w1 ⟨rfl, rfl⟩) | (go_at_call 94; refine (between_any _ _ _ _).mono ?_; rintro e w1 ⟨rfl, rfl⟩) | (go_at_call 95; refine (noConfig_any _).mono ?_; rintro e w1 ⟨rfl, rfl⟩))
        go_ret
        exact ⟨rfl, below_drewN ((Below.refl _ w).alloc (Nat.le_refl _) _) _⟩
      · have d3 : decide (0 ≤ t ∧ t < 8) = false := by simpa using h3
        clear hb h1 h2 h3
        go_enter Tryz.func101, Tryz.ntmps101
        go_wp2_with fail
        go_quiet ((first | (go_at_call 108; exact Calls.quiet_of_same (below_any _ _ _)) | (go_at_call 94; exact Calls.quiet_of_same (between_any _ _ _ _))))
        go_wp2_with (first | (go_at_call 108; refine (below_any _ _ _).mono ?_; rintro e w1 ⟨rfl, rfl⟩) | (go_at_call 94; refine (between_any _ _ _ _).mono ?_; rintro e w1 ⟨rfl, rfl⟩) | (go_at_call 95; refine (noConfig_any _).mono ?_; rintro e w1 ⟨rfl, rfl⟩))
        go_ret
        exact ⟨rfl, below_drewN ((Below.refl _ w).alloc (Nat.le_refl _) _) _⟩
    · have d2 : decide (0 ≤ j ∧ j < 6) = false := by simpa using h2
      clear hb h1 h2
      go_enter Tryz.func101, Tryz.ntmps101
      go_wp2_with fail
      go_quiet ((first | (go_at_call 108; exact Calls.quiet_of_same (below_any _ _ _)) | (go_at_call 94; exact Calls.quiet_of_same (between_any _ _ _ _))))
      go_wp2_with (first | (go_at_call 108; refine (below_any _ _ _).mono ?_; rintro e w1 ⟨rfl, rfl⟩) | (go_at_call 94; refine (between_any _ _ _ _).mono ?_; rintro e w1 ⟨rfl, rfl⟩) | (go_at_call 95; refine (noConfig_any _).mono ?_; rintro e w1 ⟨rfl, rfl⟩))
      go_ret
      exact ⟨rfl, below_drewN ((Below.refl _ w).alloc (Nat.le_refl _) _) _⟩
  · have d1 : decide (0 ≤ s ∧ s < (n : Int)) = false := by simpa using h1
    clear hb h1
    go_enter Tryz.func101, Tryz.ntmps101
    go_wp2_with fail
    go_quiet ((first | (go_at_call 108; exact Calls.quiet_of_same (below_any _ _ _)) | (go_at_call 94; exact Calls.quiet_of_same (between_any _ _ _ _))))
    go_wp2_with (first | (go_at_call 108; refine (below_any _ _ _).mono ?_; rintro e w1 ⟨rfl, rfl⟩) | (go_at_call 94; refine (between_any _ _ _ _).mono ?_; rintro e w1 ⟨rfl, rfl⟩) | (go_at_call 95; refine (noConfig_any _).mono ?_; rintro e w1 ⟨rfl, rfl⟩))
    go_ret
    exact ⟨rfl, below_drewN ((Below.refl _ w).alloc (Nat.le_refl _) _) _⟩

set_option maxRecDepth 100000 in
set_option maxHeartbeats 8000000 in
theorem addLeaf_two (x : Nat) (ty : TypeId) (cs : Array Value) (cl : Int × (Nat → Int)) (ts : List (Int × Int × Int × Int)) (n : Nat) (Q L : List (Int × Int × Int × Int)) (ln : Nat → List Nat) (vt : Value) (rv : Nat → Value) (vs : Value) (s j : Nat) (t r : Int) (w : World)
    (h : MAt w x ty cs cl ts n Q L ln vt rv vs) (hs : s < n) (hj : j < 6) (ht0 : 0 ≤ t) (ht1 : t < 8) (hr0 : 1 ≤ r) (hr1 : r ≤ 3) (hn : pb (findQ L s j) ≠ 0) :
    Calls Tryz.prog 101 #[.pointer (some ⟨x, 0, none⟩), .agg #[.int .i64 s, .int .i64 j, .int .i64 t, .int .i64 r]] w fun e w' => e = .returned (.iface 155 (.agg #[.int .i64 1])) ∧ Below w.heap.size w w' := by
  have hc6 := (h.cell 6).trans h.c6
  have hc1 := (h.cell 1).trans h.c1
  have lx := (Array.getElem?_eq_some_iff.1 h.blk).1
  obtain ⟨a, c, ev⟩ := h.sp.slice
  have hlen : (spRows n Q L).length = n := by simp [spRows]
  rw [hlen] at ev
  obtain ⟨a2, c2, ev2⟩ := h.th.slice
  rw [List.length_map] at ev2
  subst ev ev2
  obtain ⟨g, ea, hx⟩ := h.sp.is_some (by omega)
  clear hx
  subst ea
  have K := sp_cells h.sp hs hj
  have kp := K.2.2.1
  have kq := K.2.2.2
  have lg : g < w.heap.size := h.sp.lt rfl
  have d1 : decide (0 ≤ (s : Int) ∧ (s : Int) < (n : Int)) = true := by simp; omega
  have d2 : decide (0 ≤ (j : Int) ∧ (j : Int) < 6) = true := by simp; omega
  have d3 : decide (0 ≤ t ∧ t < 8) = true := by simp; omega
  have d4 : decide (1 ≤ r ∧ r ≤ 3) = true := by simp; omega
  have sn : (s : Int) < (n : Int) := by omega
  have j6 : (j : Int) < 6 := by omega
  generalize pb (findQ L s j) = B at *
  generalize pa (findQ L s j) = A at *
  skip
  have hB : (B != 0) = true := by simpa using hn
  clear h hlen K hn
  go_enter Tryz.func101, Tryz.ntmps101
  go_wp2_with fail
  go_quiet ((first | (go_at_call 108; exact Calls.quiet_of_same (below_any _ _ _)) | (go_at_call 94; exact Calls.quiet_of_same (between_any _ _ _ _))))
  go_wp2_with (first | (go_at_call 108; refine (below_any _ _ _).mono ?_; rintro e w1 ⟨rfl, rfl⟩) | (go_at_call 94; refine (between_any _ _ _ _).mono ?_; rintro e w1 ⟨rfl, rfl⟩) | (go_at_call 95; refine (noConfig_any _).mono ?_; rintro e w1 ⟨rfl, rfl⟩))
  go_quiet (fail)
  go_wp2_with (first | (go_at_call 108; refine (below_any _ _ _).mono ?_; rintro e w1 ⟨rfl, rfl⟩) | (go_at_call 94; refine (between_any _ _ _ _).mono ?_; rintro e w1 ⟨rfl, rfl⟩) | (go_at_call 95; refine (noConfig_any _).mono ?_; rintro e w1 ⟨rfl, rfl⟩))
  go_ret
  exact ⟨rfl, below_drewN ((Below.refl _ w).alloc (Nat.le_refl _) _) _⟩

set_option maxRecDepth 100000 in
set_option maxHeartbeats 8000000 in
theorem addLeaf_yes (x : Nat) (ty : TypeId) (cs : Array Value) (cl : Int × (Nat → Int)) (ts : List (Int × Int × Int × Int)) (n : Nat) (Q L : List (Int × Int × Int × Int)) (ln : Nat → List Nat) (vt : Value) (rv : Nat → Value) (vs : Value) (s j : Nat) (t r : Int) (w : World)
    (h : MAt w x ty cs cl ts n Q L ln vt rv vs) (hs : s < n) (hj : j < 6) (ht0 : 0 ≤ t) (ht1 : t < 8) (hr0 : 1 ≤ r) (hr1 : r ≤ 3) (hn : findQ L s j = none) :
    Calls Tryz.prog 101 #[.pointer (some ⟨x, 0, none⟩), .agg #[.int .i64 s, .int .i64 j, .int .i64 t, .int .i64 r]] w fun e w' => e = .returned .nilIface ∧ MAt w' x ty cs cl ts n Q (L ++ [((s : Int), (j : Int), t, r)]) ln vt rv vs ∧ Fr (MOwn x vt rv vs) w w' := by
  have hc6 := (h.cell 6).trans h.c6
  have hc1 := (h.cell 1).trans h.c1
  have lx := (Array.getElem?_eq_some_iff.1 h.blk).1
  obtain ⟨a, c, ev⟩ := h.sp.slice
  have hlen : (spRows n Q L).length = n := by simp [spRows]
  rw [hlen] at ev
  obtain ⟨a2, c2, ev2⟩ := h.th.slice
  rw [List.length_map] at ev2
  subst ev ev2
  obtain ⟨g, ea, hx⟩ := h.sp.is_some (by omega)
  clear hx
  subst ea
  have K := sp_cells h.sp hs hj
  have kp := K.2.2.1
  have kq := K.2.2.2
  have lg : g < w.heap.size := h.sp.lt rfl
  have d1 : decide (0 ≤ (s : Int) ∧ (s : Int) < (n : Int)) = true := by simp; omega
  have d2 : decide (0 ≤ (j : Int) ∧ (j : Int) < 6) = true := by simp; omega
  have d3 : decide (0 ≤ t ∧ t < 8) = true := by simp; omega
  have d4 : decide (1 ≤ r ∧ r ≤ 3) = true := by simp; omega
  have sn : (s : Int) < (n : Int) := by omega
  have j6 : (j : Int) < 6 := by omega
  rw [hn] at kp kq
  simp only [pa, pb] at kp kq
  have fp := h.sp.fro (s * 24 + 12 + j * 2)
  have fq := h.sp.fro (s * 24 + 12 + j * 2 + 1)
  have RW := rows_leaves n Q L s j hs hj t r hn
  skip
  have HM := hid (And.intro h RW)
  clear h hlen K hn RW
  go_enter Tryz.func101, Tryz.ntmps101
  go_wp2_with fail
  go_quiet ((first | (go_at_call 108; exact Calls.quiet_of_same (below_any _ _ _)) | (go_at_call 94; exact Calls.quiet_of_same (between_any _ _ _ _))))
  go_wp2_with (first | (go_at_call 108; refine (below_any _ _ _).mono ?_; rintro e w1 ⟨rfl, rfl⟩) | (go_at_call 94; refine (between_any _ _ _ _).mono ?_; rintro e w1 ⟨rfl, rfl⟩) | (go_at_call 95; refine (noConfig_any _).mono ?_; rintro e w1 ⟨rfl, rfl⟩))
  go_quiet (fail)
  go_wp2_with (first | (go_at_call 108; refine (below_any _ _ _).mono ?_; rintro e w1 ⟨rfl, rfl⟩) | (go_at_call 94; refine (between_any _ _ _ _).mono ?_; rintro e w1 ⟨rfl, rfl⟩) | (go_at_call 95; refine (noConfig_any _).mono ?_; rintro e w1 ⟨rfl, rfl⟩))
  go_ret
  have S := fun q => (HM.out.1.below (below_drewN ((Below.refl _ w).alloc (Nat.le_refl _) (.cells #[.int .i64 s, .int .i64 j, .int .i64 t, .int .i64 r] 69)) q)).setSp hs (by omega) HM.out.2
  simp only [← Nat.add_assoc] at S
  refine ⟨rfl, (S _).1, (Fr.of_below (below_drewN ((Below.refl _ w).alloc (Nat.le_refl _) _) _) _).trans ((S _).2.mono (fun k _ e => .inr (.inr (.inr (by rw [e]; rfl)))))⟩
end Go.Proofs.YtgiiegppaleldaaGreatDoor
