import Derived.Test.YtgiiegppaleldaaGreatDoorDD
/- Look. -/
namespace Go.Proofs.YtgiiegppaleldaaGreatDoor
open Go.RowKit

set_option maxHeartbeats 400000 in
theorem below_any (n b : Int) (w : World) : Calls Tryz.prog 108 #[.int .i64 n, .int .i64 b] w fun e w' => e = .returned (.bool (decide (0 ≤ n ∧ n < b))) ∧ w' = w := by
  by_cases h : 0 ≤ n
  · have d : decide (0 ≤ n) = true := by simpa using h
    go_enter Tryz.func108, Tryz.ntmps108
    go_wp2
    go_ret
    exact ⟨ret_bool (by simp [h]), rfl⟩
  · have d : decide (0 ≤ n) = false := by simpa using h
    go_enter Tryz.func108, Tryz.ntmps108
    go_wp2
    go_ret
    exact ⟨ret_bool (by simp), rfl⟩

set_option maxHeartbeats 400000 in
theorem between_any (n a b : Int) (w : World) : Calls Tryz.prog 94 #[.int .i64 n, .int .i64 a, .int .i64 b] w fun e w' => e = .returned (.bool (decide (a ≤ n ∧ n ≤ b))) ∧ w' = w := by
  by_cases h : a ≤ n
  · have d : decide (a ≤ n) = true := by simpa using h
    go_enter Tryz.func94, Tryz.ntmps94
    go_wp2
    go_ret
    exact ⟨ret_bool (by simp [h]), rfl⟩
  · have d : decide (a ≤ n) = false := by simpa using h
    go_enter Tryz.func94, Tryz.ntmps94
    go_wp2
    go_ret
    exact ⟨ret_bool (by simp), rfl⟩

theorem noConfig_any (w : World) : Calls Tryz.prog 95 #[] w fun e w' => e = .returned (.iface 155 (.agg #[.int .i64 1])) ∧ w' = w := by
  go_enter Tryz.func95, Tryz.ntmps95
  go_wp2
  go_ret
  exact ⟨rfl, rfl⟩

theorem pickT_no (a : Option Addr) (m c : Nat) (t : Int) (w : World) (h : ¬ (0 ≤ t ∧ t < m)) :
    Calls Tryz.prog 112 #[.slice a m c, .int .i64 t] w fun e w' => e = .returned (.tuple #[.pointer none, .iface 155 (.agg #[.int .i64 3])]) ∧ w' = w := by
  have d : decide (0 ≤ t ∧ t < (m : Int)) = false := by simpa using h
  go_enter Tryz.func112, Tryz.ntmps112
  go_wp2_with (go_at_call 108; refine (below_any _ _ _).mono ?_; rintro e w' ⟨rfl, rfl⟩; rw [d])
  go_ret2
  exact ⟨rfl, rfl⟩
theorem pickT_yes (g m c t : Nat) (w : World) (h : t < m) :
    Calls Tryz.prog 112 #[.slice (some ⟨g, 0, none⟩) m c, .int .i64 t] w fun e w' => e = .returned (.tuple #[.pointer (some ⟨g, t * 8, none⟩), .nilIface]) ∧ w' = w := by
  have d : decide (0 ≤ (t : Int) ∧ (t : Int) < (m : Int)) = true := by simp; omega
  have tm : (t : Int) < (m : Int) := by omega
  go_enter Tryz.func112, Tryz.ntmps112
  go_wp2_with (go_at_call 108; refine (below_any _ _ _).mono ?_; rintro e w' ⟨rfl, rfl⟩; rw [d])
  go_ret2
  exact ⟨rfl, rfl⟩
theorem pickS_no (a : Option Addr) (m c : Nat) (t : Int) (w : World) (h : ¬ (0 ≤ t ∧ t < m)) :
    Calls Tryz.prog 114 #[.slice a m c, .int .i64 t] w fun e w' => e = .returned (.tuple #[.pointer none, .iface 155 (.agg #[.int .i64 3])]) ∧ w' = w := by
  have d : decide (0 ≤ t ∧ t < (m : Int)) = false := by simpa using h
  go_enter Tryz.func114, Tryz.ntmps114
  go_wp2_with (go_at_call 108; refine (below_any _ _ _).mono ?_; rintro e w' ⟨rfl, rfl⟩; rw [d])
  go_ret2
  exact ⟨rfl, rfl⟩
theorem pickS_yes (g m c t : Nat) (w : World) (h : t < m) :
    Calls Tryz.prog 114 #[.slice (some ⟨g, 0, none⟩) m c, .int .i64 t] w fun e w' => e = .returned (.tuple #[.pointer (some ⟨g, t * 24, none⟩), .nilIface]) ∧ w' = w := by
  have d : decide (0 ≤ (t : Int) ∧ (t : Int) < (m : Int)) = true := by simp; omega
  have tm : (t : Int) < (m : Int) := by omega
  go_enter Tryz.func114, Tryz.ntmps114
  go_wp2_with (go_at_call 108; refine (below_any _ _ _).mono ?_; rintro e w' ⟨rfl, rfl⟩; rw [d])
  go_ret2
  exact ⟨rfl, rfl⟩

set_option maxRecDepth 100000 in
set_option maxHeartbeats 4000000 in
theorem mLook_no (x : Nat) (ty : TypeId) (S : Nat → Prop) (K : RK) (t : Int) (w : World) (h : MRep w x ty S K) (_h6 : K.threads.length ≤ 6) (ht : ¬ (0 ≤ t ∧ t < K.threads.length)) :
    Calls Tryz.prog 88 #[.pointer (some ⟨x, 0, none⟩), .int .i64 t] w fun e w' => ∃ s, e = .returned (.tuple #[.agg #[.int .i64 0, .int .i64 0, .int .i64 0, .slice none 0 0, .int .i64 0], .iface 153 (.agg #[.string s, .iface 155 (.agg #[.int .i64 3])])]) ∧ Below w.heap.size w w' := by
  obtain ⟨cs, ln, vt, rv, vs, hm, hl, hS⟩ := h
  have hc1 := (hm.cell 1).trans hm.c1
  have lx := (Array.getElem?_eq_some_iff.1 hm.blk).1
  obtain ⟨a, c, ev⟩ := hm.th.slice
  rw [List.length_map] at ev
  subst ev
  generalize K.threads.length = m at *
  have HT := hid ht
  clear hm hl hS ht
  go_enter Tryz.func88, Tryz.ntmps88
  go_wp2_with (go_at_call 112; refine (pickT_no a m c t _ HT.out).mono ?_; rintro e w1 ⟨rfl, rfl⟩)
  exact bodyPost_ret (results_row_tmp Tryz.results88 _ _ w.heap.size 137 _ (0, 0) _ _ rfl (heap_alloc_new w _) Tryz.underlying137 rfl (by kernel_rfl) rfl) rfl ⟨_, rfl, (Below.refl _ w).alloc (Nat.le_refl _) _⟩

set_option maxRecDepth 100000 in
theorem clone_nil (w : World) : Calls Tryz.prog 113 #[.slice none 0 0] w fun e w' => e = .returned (.slice none 0 0) ∧ w' = w := by
  have he : ∀ w, (binOp .eql 42 (.slice none 0 0) (.slice none 0 0)).run Tryz.prog w = .ok (.bool true) w := fun w => Go.Lib.run_eql_slice_nil w 42 2 none 0 0 0 0 Tryz.underlying42
  go_enter Tryz.func113, Tryz.ntmps113
  go_wp2
  go_ret
  exact ⟨rfl, rfl⟩

set_option maxRecDepth 100000 in
set_option maxHeartbeats 4000000 in
theorem mLook_yes (x : Nat) (ty : TypeId) (S : Nat → Prop) (K : RK) (t : Nat) (w : World) (h : MRep w x ty S K) (h6 : K.threads.length ≤ 6) (ht : t < K.threads.length) :
    Calls Tryz.prog 88 #[.pointer (some ⟨x, 0, none⟩), .int .i64 t] w fun e w' => e = .returned (.tuple #[.agg #[.int .i64 1, .int .i64 0, .int .i64 (-1), .slice none 0 0, .int .i64 (-1)], .nilIface]) ∧ Below w.heap.size w w' := by
  obtain ⟨u, hu⟩ : ∃ u, K.threads[t]? = some u := ⟨_, List.getElem?_eq_getElem ht⟩
  obtain ⟨cs, ln, vt, rv, vs, hm, hl, hS⟩ := h
  have hc1 := (hm.cell 1).trans hm.c1
  have lx := (Array.getElem?_eq_some_iff.1 hm.blk).1
  obtain ⟨a, c, ev⟩ := hm.th.slice
  rw [List.length_map] at ev
  subst ev
  obtain ⟨g, ea, hx⟩ := hm.th.is_some (by omega)
  clear hx
  subst ea
  have hth := hm.th
  have R0 : w.rangeAt g (t * 8 + 3) [.int .i64 1, .int .i64 0, .int .i64 (-1), .slice none 0 0, .int .i64 (-1)] := fun j v hv => by
    have hj : j < 5 := (List.getElem?_eq_some_iff.1 hv).1
    rw [Nat.add_assoc, hth.thcell hu (3 + j) (by omega), Nat.add_comm 3 j]
    exact hv
  have R1 := hid (World.rangeAt_alloc R0 (.cells #[.int .i64 0, .int .i64 0, .int .i64 0, .slice none 0 0, .int .i64 0] 137))
  generalize K.threads.length = m at *
  clear hm hl hS hth R0 hu
  go_enter Tryz.func88, Tryz.ntmps88
  go_wp2_with (first
    | (go_at_call 112; refine (pickT_yes g m c t _ ht).mono ?_; rintro e w1 ⟨rfl, rfl⟩)
    | (go_at_call 113; refine (clone_nil _).mono ?_; rintro e w1 ⟨rfl, rfl⟩)
    | (with_reducible (show wpList _ _ _ (⟨some 27, .load 137 _, _, _, _, none⟩ :: _) _ _); go_must (refine wpList_load_mid rfl 137 _ rfl g (t * 8 + 3) rfl _ _ R1.out Tryz.underlying137 rfl (by kernel_rfl) ?_)))
  exact bodyPost_ret (results_row_tmp Tryz.results88 _ _ w.heap.size 137 _ (0, 0) _ _ rfl (heap_alloc2_old w _ _) Tryz.underlying137 rfl (by kernel_rfl) rfl) rfl ⟨rfl, ((Below.refl _ w).alloc (Nat.le_refl _) _).alloc (by simp) _⟩

set_option maxRecDepth 100000 in
set_option maxHeartbeats 4000000 in
theorem fLook_yes (x : Nat) (S : Nat → Prop) (K : RK) (t : Nat) (w : World) (h : MRep w x 105 S K) (h6 : K.threads.length ≤ 6) (ht : t < K.threads.length) :
    Calls Tryz.prog 66 #[.pointer (some ⟨x, 0, none⟩), .int .i64 t] w fun e w' => e = .returned (.tuple #[.agg #[.int .i64 1, .int .i64 0, .int .i64 (-1), .slice none 0 0, .int .i64 (-1)], .int .i64 0]) ∧ Below w.heap.size w w' := by
  have C := hid (mLook_yes x 105 S K t (w.alloc (.cells #[.int .i64 0, .int .i64 0, .int .i64 0, .slice none 0 0, .int .i64 0] 137)) (h.kept ((Fr.refl (fun _ => False) w).alloc _) (fun _ _ h => h)) h6 ht)
  clear h h6 ht
  go_enter Tryz.func66, Tryz.ntmps66
  go_wp2_with (go_at_call 88; refine C.out.mono ?_; rintro e w2 ⟨rfl, H2⟩; replace H2 := hid H2)
  have hb2 : w2.heap[w.heap.size]? = some (.cells #[.int .i64 0, .int .i64 0, .int .i64 0, .slice none 0 0, .int .i64 0] 137 (0, 0)) := (H2.out.block _ (by simp)).trans (heap_alloc_new w _)
  have lw2 : w.heap.size < w2.heap.size := (Array.getElem?_eq_some_iff.1 hb2).1
  have B3 : ∀ w3 : World, Below (w2.alloc (.cells #[.int .i64 1, .int .i64 0, .int .i64 (-1), .slice none 0 0, .int .i64 (-1)] 137)).drew.heap.size (w2.alloc (.cells #[.int .i64 1, .int .i64 0, .int .i64 (-1), .slice none 0 0, .int .i64 (-1)] 137)).drew w3 → Hid (w3.heap[w2.heap.size]? = some (.cells #[.int .i64 1, .int .i64 0, .int .i64 (-1), .slice none 0 0, .int .i64 (-1)] 137 (0, 0)) ∧ w3.heap[w.heap.size]? = some (.cells #[.int .i64 0, .int .i64 0, .int .i64 0, .slice none 0 0, .int .i64 0] 137 (0, 0)) ∧ Below w.heap.size w w3) := by
    intro w3 h3
    have hh : (w2.alloc (.cells #[.int .i64 1, .int .i64 0, .int .i64 (-1), .slice none 0 0, .int .i64 (-1)] 137)).drew.heap.size = w2.heap.size + 1 := by simp
    rw [hh] at h3
    refine ⟨(h3.block _ (by omega)).trans (heap_alloc_new w2 _), (h3.block _ (by omega)).trans ((Below.heap_alloc w2 _ _ lw2).trans hb2), ?_⟩
    have hB : Below w.heap.size w w2 := (((Below.refl _ w).alloc (Nat.le_refl _) _).trans (H2.out.mono (by simp)))
    exact (hB.alloc (by omega) _).drew.trans (h3.mono (by omega))
  have HB3 := hid B3
  clear B3 hb2
  go_region_with (go_at_call 40; refine (number_nil _).mono ?_; rintro e w3 ⟨rfl, H3⟩; have G3 := HB3.out w3 H3; have c30 := cells5 G3.out.1; have c31 := cells5 G3.out.2.1; have f30 := frozen_of_row w3 w.heap.size 0 _ _ G3.out.2.1; have f31 := frozen_of_row w3 w.heap.size 1 _ _ G3.out.2.1; have f32 := frozen_of_row w3 w.heap.size 2 _ _ G3.out.2.1; have f33 := frozen_of_row w3 w.heap.size 3 _ _ G3.out.2.1; have f34 := frozen_of_row w3 w.heap.size 4 _ _ G3.out.2.1; obtain ⟨⟨c300, c301, c302, c303, c304⟩, _⟩ := c30; obtain ⟨⟨c310, c311, c312, c313, c314⟩, _⟩ := c31; clear H3)
  all_goals
    try go_wp2
    exact bodyPost_ret (results_row_tmp Tryz.results66 _ _ w.heap.size 137 _ (0, 0) _ _ rfl (set5 G3.out.2.1) Tryz.underlying137 rfl (by kernel_rfl) rfl) rfl ⟨rfl, ((((G3.out.2.2.setCell (p := ⟨w.heap.size, 0, none⟩) (Nat.le_refl _) _).setCell (p := ⟨w.heap.size, 1, none⟩) (Nat.le_refl _) _).setCell (p := ⟨w.heap.size, 2, none⟩) (Nat.le_refl _) _).setCell (p := ⟨w.heap.size, 3, none⟩) (Nat.le_refl _) _).setCell (p := ⟨w.heap.size, 4, none⟩) (Nat.le_refl _) _⟩
set_option maxRecDepth 100000 in
set_option maxHeartbeats 4000000 in
theorem fLook_no (x : Nat) (S : Nat → Prop) (K : RK) (t : Int) (w : World) (hg : Gl w) (h : MRep w x 105 S K) (h6 : K.threads.length ≤ 6) (ht : ¬ (0 ≤ t ∧ t < K.threads.length)) :
    Calls Tryz.prog 66 #[.pointer (some ⟨x, 0, none⟩), .int .i64 t] w fun e w' => e = .returned (.tuple #[.agg #[.int .i64 0, .int .i64 0, .int .i64 0, .slice none 0 0, .int .i64 0], .int .i64 3]) ∧ Below w.heap.size w w' := by
  have C := hid (mLook_no x 105 S K t (w.alloc (.cells #[.int .i64 0, .int .i64 0, .int .i64 0, .slice none 0 0, .int .i64 0] 137)) (h.kept ((Fr.refl (fun _ => False) w).alloc _) (fun _ _ h => h)) h6 ht)
  clear h h6 ht
  go_enter Tryz.func66, Tryz.ntmps66
  go_wp2_with (go_at_call 88; refine C.out.mono ?_; rintro e w2 ⟨s, rfl, H2⟩; replace H2 := hid H2)
  have hb2 : w2.heap[w.heap.size]? = some (.cells #[.int .i64 0, .int .i64 0, .int .i64 0, .slice none 0 0, .int .i64 0] 137 (0, 0)) := (H2.out.block _ (by simp)).trans (heap_alloc_new w _)
  have lw2 : w.heap.size < w2.heap.size := (Array.getElem?_eq_some_iff.1 hb2).1
  have B3 : ∀ w3 : World, Below (w2.alloc (.cells #[.int .i64 0, .int .i64 0, .int .i64 0, .slice none 0 0, .int .i64 0] 137)).drew.heap.size (w2.alloc (.cells #[.int .i64 0, .int .i64 0, .int .i64 0, .slice none 0 0, .int .i64 0] 137)).drew w3 → Hid (w3.heap[w2.heap.size]? = some (.cells #[.int .i64 0, .int .i64 0, .int .i64 0, .slice none 0 0, .int .i64 0] 137 (0, 0)) ∧ w3.heap[w.heap.size]? = some (.cells #[.int .i64 0, .int .i64 0, .int .i64 0, .slice none 0 0, .int .i64 0] 137 (0, 0)) ∧ Below w.heap.size w w3) := by
    intro w3 h3
    have hh : (w2.alloc (.cells #[.int .i64 0, .int .i64 0, .int .i64 0, .slice none 0 0, .int .i64 0] 137)).drew.heap.size = w2.heap.size + 1 := by simp
    rw [hh] at h3
    refine ⟨(h3.block _ (by omega)).trans (heap_alloc_new w2 _), (h3.block _ (by omega)).trans ((Below.heap_alloc w2 _ _ lw2).trans hb2), ?_⟩
    have hB : Below w.heap.size w w2 := (((Below.refl _ w).alloc (Nat.le_refl _) _).trans (H2.out.mono (by simp)))
    exact (hB.alloc (by omega) _).drew.trans (h3.mono (by omega))
  have HB3 := hid B3
  clear B3 hb2
  go_region_with (go_at_call 40; refine (number_met1 s 3 (w2.alloc (.cells #[.int .i64 0, .int .i64 0, .int .i64 0, .slice none 0 0, .int .i64 0] 137)).drew ((((hg.alloc _).below (by rw [size_alloc]; simpa using H2.out)).alloc _))).mono ?_; rintro e w3 ⟨rfl, H3⟩; have G3 := HB3.out w3 H3; have c30 := cells5 G3.out.1; have c31 := cells5 G3.out.2.1; have f30 := frozen_of_row w3 w.heap.size 0 _ _ G3.out.2.1; have f31 := frozen_of_row w3 w.heap.size 1 _ _ G3.out.2.1; have f32 := frozen_of_row w3 w.heap.size 2 _ _ G3.out.2.1; have f33 := frozen_of_row w3 w.heap.size 3 _ _ G3.out.2.1; have f34 := frozen_of_row w3 w.heap.size 4 _ _ G3.out.2.1; obtain ⟨⟨c300, c301, c302, c303, c304⟩, _⟩ := c30; obtain ⟨⟨c310, c311, c312, c313, c314⟩, _⟩ := c31; clear H3)
  all_goals
    try go_wp2
    exact bodyPost_ret (results_row_tmp Tryz.results66 _ _ w.heap.size 137 _ (0, 0) _ _ rfl (set5 G3.out.2.1) Tryz.underlying137 rfl (by kernel_rfl) rfl) rfl ⟨rfl, ((((G3.out.2.2.setCell (p := ⟨w.heap.size, 0, none⟩) (Nat.le_refl _) _).setCell (p := ⟨w.heap.size, 1, none⟩) (Nat.le_refl _) _).setCell (p := ⟨w.heap.size, 2, none⟩) (Nat.le_refl _) _).setCell (p := ⟨w.heap.size, 3, none⟩) (Nat.le_refl _) _).setCell (p := ⟨w.heap.size, 4, none⟩) (Nat.le_refl _) _⟩
end Go.Proofs.YtgiiegppaleldaaGreatDoor
