import Derived.Test.YtgiiegppaleldaaGreatDoorA
namespace Go.Proofs.YtgiiegppaleldaaGreatDoor
open Go.RowKit

theorem Tryz.infoN2 : (Tryz.prog.info? 2).map (fun i => (i.zero, i.size, i.bytes)) = some (some (.int .i64 0), 1, 8) := by kernel_rfl
theorem Tryz.infoN67 : (Tryz.prog.info? 67).map (fun i => (i.zero, i.size, i.bytes)) = some (some (.agg #[.int .i64 0, .int .i64 0, .int .i64 0, .int .i64 0]), 4, 32) := by kernel_rfl
theorem Tryz.infoN69 : (Tryz.prog.info? 69).map (fun i => (i.zero, i.size, i.bytes)) = some (some (.agg #[.int .i64 0, .int .i64 0, .int .i64 0, .int .i64 0]), 4, 32) := by kernel_rfl

set_option maxRecDepth 100000 in
set_option maxHeartbeats 1000000 in
theorem ownNumbers_any (v : Value) (n : Nat) (xs : List Value) (mark : Int) (w : World) (m0 : 0 ≤ mark) (m1 : mark ≤ 4611686018427387904)
    (hown : w.ownsRow 0 2 1 v n xs) (hn : n ≤ 1000000) :
    Calls Tryz.prog 89 #[v, .int .i64 mark] w fun e w' => ∃ v1 v2 v3, e = .returned (.agg #[v, v1, v2, v3, .int .i64 mark]) ∧
      Marked w' 2 [.int .i64 (-1000 - mark)] v ∧ Marked w' 2 [.int .i64 (-1000 - mark)] v1 ∧ Marked w' 2 [.int .i64 (-1000 - mark)] v2 ∧ Marked w' 2 [.int .i64 (-1000 - mark)] v3 ∧
      Fr (fun k => v.ownBlock = some k) w w' ∧
      (∀ k, (v1.ownBlock = some k ∨ v2.ownBlock = some k ∨ v3.ownBlock = some k) → w.heap.size ≤ k ∨ v.ownBlock = some k) := by
  obtain ⟨len, cap, a, rfl, hlen⟩ : ∃ len cap a, v = .slice a len cap ∧ len = n := by
    rcases hown.2 with ⟨rfl, rfl⟩ | ⟨g, cap, cur, rfl, _⟩
    · exact ⟨_, _, _, rfl, rfl⟩
    · exact ⟨_, _, _, rfl, rfl⟩
  subst hlen
  have hlt0 := hid hown.lt
  obtain ⟨i0, hi, hz0, hz1, hz2⟩ := info_parts Tryz.infoN2
  go_enter Tryz.func89, Tryz.ntmps89
  go_wp2
  go_loopw [6] (fun i w' => ∃ (k : Nat) (ys : List Value), k ≤ len ∧ i = .int .i64 k ∧ w'.ownsRow 0 2 1 (.slice a len cap) len ys ∧ Hid (ys.take (k * 1) = rep k [.int .i64 (-1000 - mark)]) ∧ Fr (fun k => Value.ownBlock (.slice a len cap) = some k) w w' ∧ w.heap.size + 1 ≤ w'.heap.size ∧ Hid (w'.heap[w.heap.size]? = some (.cells #[.slice none 0 0, .slice none 0 0, .slice none 0 0, .slice none 0 0, .int .i64 0] 83 (0, 0)))) (fun i _ => len - (intOf i).toNat)
  case atStart => exact ⟨0, xs, Nat.zero_le _, rfl, hown.alloc _, by simp [Hid, rep], (Fr.refl _ _).alloc _, by simp, heap_alloc_new _ _⟩
  case round =>
    obtain ⟨k, ys, hk, rfl, ho, hys, hf, hz, hcs⟩ := hrel
    by_cases hlt : k < len
    · rcases ho.2 with ⟨hx, hy⟩ | ⟨g, cap', cur, hx, _, hg, hnc, hcm, hsz, htk⟩
      · omega
      · simp only [Value.slice.injEq, true_and] at hx
        obtain ⟨rfl, rfl⟩ := hx
        have hlen : ys.length = len := by simpa using ho.1
        have hcell : wr.cell? ⟨g, k, none⟩ = some ys[k] := by rw [ho.cellAt k (by omega), List.getElem?_eq_getElem (by omega)]
        have hfr : wr.frozen? ⟨g, k, none⟩ = false := ho.frozenAt k
        have HST := hid (ho.stored k (.int .i64 (-1000 - mark)))
        have hne : g ≠ w.heap.size := by have := hlt0.out g rfl; omega
        have HL : Hid (ys.length = len) := hlen
        clear hg htk
        go_wp2
        refine ⟨⟨k + 1, ys.set k (.int .i64 (-1000 - mark)), by omega, by go_num, HST.out.1, ?_, hf.setCell (p := ⟨g, k, none⟩) (fun _ => rfl) _, by simpa [World.setCell] using hz, ?_⟩, by simp [intOf]; omega⟩
        · have := take_setAt_mark k [.int .i64 (-1000 - mark)] ys (by simp [HL.out]; omega) (by simpa using hys.out)
          simpa [setAt, Hid] using this
        · unfold Hid
          rw [Below.heap_setCell _ _ _ _ (fun h => hne h.symm)]; exact hcs.out
    · have ek : k = len := by omega
      subst ek
      have eys : ys = rep k [.int .i64 (-1000 - mark)] := by
        have h := hys.out; rw [List.take_of_length_le (by have := ho.1; omega)] at h; exact h
      subst eys
      clear hys hown
      have HO := hid ho
      have hbz : Hid (Value.ownBlock (.slice a k cap) ≠ some w.heap.size) := fun h => by have := hlt0.out _ h; omega
      clear ho
      go_wp2_with (first
        | (at_builtin; refine wpList_append_marks _ rfl _ _ 42 rfl 2 i0 (.int .i64 0) [.int .i64 (-1000 - mark)] 8 Tryz.underlying42 hi hz0 hz1 hz2 rfl (by simp) (.slice a k cap) k rfl (HO.out.alloc _) ⟨wr.heap.size, 0, none⟩ 1 1 rfl (by decide) (fun j u h => cell_news _ #[.int .i64 (-1000 - mark)] _ j u h) (fun u hu => by simp at hu; subst hu; rfl) (by unfold maxLen; omega) (by omega) ?_; intro a1 c1 w1 H1)
        | (at_builtin; refine wpList_append_marks _ rfl _ _ 42 rfl 2 i0 (.int .i64 0) [.int .i64 (-1000 - mark)] 8 Tryz.underlying42 hi hz0 hz1 hz2 rfl (by simp) (.slice a k cap) k rfl ((H1.2.2.2 _ _ (HO.out.alloc _)).alloc _) ⟨w1.heap.size, 0, none⟩ 2 2 rfl (by decide) (fun j u h => cell_news _ #[.int .i64 (-1000 - mark), .int .i64 (-1000 - mark)] _ j u h) (fun u hu => by simp at hu; subst hu; rfl) (by unfold maxLen; omega) (by omega) ?_; intro a2 c2 w2 H2)
        | (at_builtin; refine wpList_append_marks _ rfl _ _ 42 rfl 2 i0 (.int .i64 0) [.int .i64 (-1000 - mark)] 8 Tryz.underlying42 hi hz0 hz1 hz2 rfl (by simp) (.slice a k cap) k rfl ((H2.2.2.2 _ _ ((H1.2.2.2 _ _ (HO.out.alloc _)).alloc _)).alloc _) ⟨w2.heap.size, 0, none⟩ 3 3 rfl (by decide) (fun j u h => cell_news _ #[.int .i64 (-1000 - mark), .int .i64 (-1000 - mark), .int .i64 (-1000 - mark)] _ j u h) (fun u hu => by simp at hu; subst hu; rfl) (by unfold maxLen; omega) (by omega) ?_; intro a3 c3 w3 H3; have hbk : Hid (w3.heap[w.heap.size]? = some (.cells #[.slice none 0 0, .slice none 0 0, .slice none 0 0, .slice none 0 0, .int .i64 0] 83 (0, 0))) := by (rw [Hid, H3.block (by have := H1.size; have := H2.size; omega) hbz.out, H2.block (by have := H1.size; omega) hbz.out, H1.block (by omega) hbz.out]; exact hcs.out))
        | (with_reducible (show wpList _ _ _ (⟨_, .store 83 _ _, _, _, _, none⟩ :: _) _ _); go_must (refine wpList_store_row rfl 83 _ _ rfl w.heap.size #[.slice a k cap, .slice a1 (k + 1) c1, .slice a2 (k + 2) c2, .slice a3 (k + 3) c3, .int .i64 mark] rfl rfl 83 #[.slice none 0 0, .slice none 0 0, .slice none 0 0, .slice none 0 0, .int .i64 0] hbk.out (by kernel_rfl) rfl ?_ ?_); (simp [Value.oneCell'])))
      refine bodyPost_ret (v := .agg #[.slice a k cap, .slice a1 (k + 1) c1, .slice a2 (k + 2) c2, .slice a3 (k + 3) c3, .int .i64 mark]) (results_cell_row Tryz.results89 _ _ w.heap.size 83 _ (0, 0) _ rfl (setRow_heap _ _ _ _ _ _ hbk.out) Tryz.underlying83 rfl (by kernel_rfl)) rfl ⟨_, _, _, rfl, ?_⟩
      exact marks_end hf (by omega) hbz.out HO.out H1 H2 H3 _

set_option maxRecDepth 100000 in
set_option maxHeartbeats 1000000 in
theorem ownPasses_any (v : Value) (n : Nat) (xs : List Value) (mark : Int) (w : World) (m0 : 0 ≤ mark) (m1 : mark ≤ 4611686018427387904)
    (hown : w.ownsRow 0 67 4 v n xs) (hn : n ≤ 1000000) :
    Calls Tryz.prog 91 #[v, .int .i64 mark] w fun e w' => ∃ v1 v2 v3, e = .returned (.agg #[v, v1, v2, v3, .int .i64 mark]) ∧
      Marked w' 67 [.int .i64 0, .int .i64 (-1000 - mark), .int .i64 0, .int .i64 0] v ∧ Marked w' 67 [.int .i64 0, .int .i64 (-1000 - mark), .int .i64 0, .int .i64 0] v1 ∧ Marked w' 67 [.int .i64 0, .int .i64 (-1000 - mark), .int .i64 0, .int .i64 0] v2 ∧ Marked w' 67 [.int .i64 0, .int .i64 (-1000 - mark), .int .i64 0, .int .i64 0] v3 ∧
      Fr (fun k => v.ownBlock = some k) w w' ∧
      (∀ k, (v1.ownBlock = some k ∨ v2.ownBlock = some k ∨ v3.ownBlock = some k) → w.heap.size ≤ k ∨ v.ownBlock = some k) := by
  obtain ⟨len, cap, a, rfl, hlen⟩ : ∃ len cap a, v = .slice a len cap ∧ len = n := by
    rcases hown.2 with ⟨rfl, rfl⟩ | ⟨g, cap, cur, rfl, _⟩
    · exact ⟨_, _, _, rfl, rfl⟩
    · exact ⟨_, _, _, rfl, rfl⟩
  subst hlen
  have hlt0 := hid hown.lt
  obtain ⟨i0, hi, hz0, hz1, hz2⟩ := info_parts Tryz.infoN67
  go_enter Tryz.func91, Tryz.ntmps91
  go_wp2
  go_loopw [6] (fun i w' => ∃ (k : Nat) (ys : List Value), k ≤ len ∧ i = .int .i64 k ∧ w'.ownsRow 0 67 4 (.slice a len cap) len ys ∧ Hid (ys.take (k * 4) = rep k [.int .i64 0, .int .i64 (-1000 - mark), .int .i64 0, .int .i64 0]) ∧ Fr (fun k => Value.ownBlock (.slice a len cap) = some k) w w' ∧ w.heap.size + 2 ≤ w'.heap.size ∧ Hid (w'.heap[w.heap.size]? = some (.cells #[.slice none 0 0, .slice none 0 0, .slice none 0 0, .slice none 0 0, .int .i64 0] 85 (0, 0))) ∧ Hid (w'.heap[w.heap.size + 1]? = some (.cells #[.int .i64 0, .int .i64 (-1000 - mark), .int .i64 0, .int .i64 0] 67 (0, 0)))) (fun i _ => len - (intOf i).toNat)
  case atStart => exact ⟨0, xs, Nat.zero_le _, rfl, (hown.alloc _).alloc _, by simp [Hid, rep], ((Fr.refl _ _).alloc _).alloc _, by simp, heap_alloc2_old _ _ _, heap_alloc2_new _ _ _⟩
  case round =>
    obtain ⟨k, ys, hk, rfl, ho, hys, hf, hz, hcs, hx0⟩ := hrel
    by_cases hlt : k < len
    · rcases ho.2 with ⟨hx, hy⟩ | ⟨g, cap', cur, hx, _, hg, hnc, hcm, hsz, htk⟩
      · omega
      · simp only [Value.slice.injEq, true_and] at hx
        obtain ⟨rfl, rfl⟩ := hx
        have hlen : ys.length = len * 4 := ho.1
        have hbound : k * 4 + 4 ≤ len * 4 := by omega
        have HST := hid (setCells_owns [.int .i64 0, .int .i64 (-1000 - mark), .int .i64 0, .int .i64 0] (k * 4) _ _ ho)
        have hne : g ≠ w.heap.size := by have := hlt0.out g rfl; omega
        have hne1 : g ≠ w.heap.size + 1 := by have := hlt0.out g rfl; omega
        have HL : Hid (ys.length = len * 4) := hlen
        have HT := hid (owns_there ho (k * 4) 4 hbound)
        clear hg htk hlen
        go_wp2_with (first
          | (with_reducible (show wpList _ _ _ (⟨_, .load 67 _, _, _, _, none⟩ :: _) _ _); go_must (refine wpList_load_row rfl 67 _ rfl (w.heap.size + 1) rfl 67 _ (0, 0) _ hx0.out Tryz.underlying67 rfl (by kernel_rfl) ?_))
          | (with_reducible (show wpList _ _ _ (⟨_, .store 67 _ _, _, _, _, none⟩ :: _) _ _); go_must (refine wpList_store_mid rfl 67 _ _ rfl g (k * 4) #[.int .i64 0, .int .i64 (-1000 - mark), .int .i64 0, .int .i64 0] rfl rfl (by simpa using HT.out) (by kernel_rfl) ?_ ?_); (simp [Value.oneCell'])))
        refine ⟨⟨k + 1, setAt ys (k * 4) [.int .i64 0, .int .i64 (-1000 - mark), .int .i64 0, .int .i64 0], by omega, by go_num, HST.out.1, ?_, hf.trans ((Fr.grown HST.out.2).mono (fun q _ h => h)), Nat.le_trans hz HST.out.2.size, ?_, ?_⟩, by simp [intOf]; omega⟩
        · exact take_setAt_mark k [.int .i64 0, .int .i64 (-1000 - mark), .int .i64 0, .int .i64 0] ys (by simp [HL.out]; omega) hys.out
        · unfold Hid
          rw [HST.out.2.block _ (by omega) (fun h => hne (by simpa using h.symm))]; exact hcs.out
        · unfold Hid
          rw [HST.out.2.block _ (by omega) (fun h => hne1 (by simpa using h.symm))]; exact hx0.out
    · have ek : k = len := by omega
      subst ek
      have eys : ys = rep k [.int .i64 0, .int .i64 (-1000 - mark), .int .i64 0, .int .i64 0] := by
        have h := hys.out; rw [List.take_of_length_le (by have := ho.1; omega)] at h; exact h
      subst eys
      clear hys hown
      have HO := hid ho
      have hbz : Hid (Value.ownBlock (.slice a k cap) ≠ some w.heap.size) := fun h => by have := hlt0.out _ h; omega
      clear ho
      have hbx : Hid (Value.ownBlock (.slice a k cap) ≠ some (w.heap.size + 1)) := fun h => by have := hlt0.out _ h; omega
      go_wp2_with (first
        | (at_builtin; refine wpList_append_marks _ rfl _ _ 37 rfl 67 i0 (.agg #[.int .i64 0, .int .i64 0, .int .i64 0, .int .i64 0]) [.int .i64 0, .int .i64 (-1000 - mark), .int .i64 0, .int .i64 0] 32 Tryz.underlying37 hi hz0 hz1 hz2 rfl (by simp) (.slice a k cap) k rfl (HO.out.alloc _) ⟨wr.heap.size, 0, none⟩ 1 1 rfl (by decide) (fun j u h => cell_news _ #[.int .i64 0, .int .i64 (-1000 - mark), .int .i64 0, .int .i64 0] _ j u h) (fun u hu => by simp at hu; rcases hu with rfl | rfl | rfl | rfl <;> rfl) (by unfold maxLen; omega) (by omega) ?_; intro a1 c1 w1 H1; have hx1 : Hid (w1.heap[w.heap.size + 1]? = some (.cells #[.int .i64 0, .int .i64 (-1000 - mark), .int .i64 0, .int .i64 0] 67 (0, 0))) := by (rw [Hid, H1.block (by omega) hbx.out]; exact hx0.out))
        | (at_builtin; refine wpList_append_marks _ rfl _ _ 37 rfl 67 i0 (.agg #[.int .i64 0, .int .i64 0, .int .i64 0, .int .i64 0]) [.int .i64 0, .int .i64 (-1000 - mark), .int .i64 0, .int .i64 0] 32 Tryz.underlying37 hi hz0 hz1 hz2 rfl (by simp) (.slice a k cap) k rfl ((H1.2.2.2 _ _ (HO.out.alloc _)).alloc _) ⟨w1.heap.size, 0, none⟩ 2 2 rfl (by decide) (fun j u h => cell_news _ #[.int .i64 0, .int .i64 (-1000 - mark), .int .i64 0, .int .i64 0, .int .i64 0, .int .i64 (-1000 - mark), .int .i64 0, .int .i64 0] _ j u h) (fun u hu => by simp at hu; rcases hu with rfl | rfl | rfl | rfl <;> rfl) (by unfold maxLen; omega) (by omega) ?_; intro a2 c2 w2 H2; have hx2 : Hid (w2.heap[w.heap.size + 1]? = some (.cells #[.int .i64 0, .int .i64 (-1000 - mark), .int .i64 0, .int .i64 0] 67 (0, 0))) := by (rw [Hid, H2.block (by have := H1.size; omega) hbx.out]; exact hx1.out))
        | (at_builtin; refine wpList_append_marks _ rfl _ _ 37 rfl 67 i0 (.agg #[.int .i64 0, .int .i64 0, .int .i64 0, .int .i64 0]) [.int .i64 0, .int .i64 (-1000 - mark), .int .i64 0, .int .i64 0] 32 Tryz.underlying37 hi hz0 hz1 hz2 rfl (by simp) (.slice a k cap) k rfl ((H2.2.2.2 _ _ ((H1.2.2.2 _ _ (HO.out.alloc _)).alloc _)).alloc _) ⟨w2.heap.size, 0, none⟩ 3 3 rfl (by decide) (fun j u h => cell_news _ #[.int .i64 0, .int .i64 (-1000 - mark), .int .i64 0, .int .i64 0, .int .i64 0, .int .i64 (-1000 - mark), .int .i64 0, .int .i64 0, .int .i64 0, .int .i64 (-1000 - mark), .int .i64 0, .int .i64 0] _ j u h) (fun u hu => by simp at hu; rcases hu with rfl | rfl | rfl | rfl <;> rfl) (by unfold maxLen; omega) (by omega) ?_; intro a3 c3 w3 H3; have hbk : Hid (w3.heap[w.heap.size]? = some (.cells #[.slice none 0 0, .slice none 0 0, .slice none 0 0, .slice none 0 0, .int .i64 0] 85 (0, 0))) := by (rw [Hid, H3.block (by have := H1.size; have := H2.size; omega) hbz.out, H2.block (by have := H1.size; omega) hbz.out, H1.block (by omega) hbz.out]; exact hcs.out))
        | (with_reducible (show wpList _ _ _ (⟨_, .store 85 _ _, _, _, _, none⟩ :: _) _ _); go_must (refine wpList_store_row rfl 85 _ _ rfl w.heap.size #[.slice a k cap, .slice a1 (k + 1) c1, .slice a2 (k + 2) c2, .slice a3 (k + 3) c3, .int .i64 mark] rfl rfl 85 #[.slice none 0 0, .slice none 0 0, .slice none 0 0, .slice none 0 0, .int .i64 0] hbk.out (by kernel_rfl) rfl ?_ ?_); (simp [Value.oneCell']))
        | (with_reducible (show wpList _ _ _ (⟨_, .load 67 _, _, _, _, none⟩ :: _) _ wr); go_must (refine wpList_load_row rfl 67 _ rfl (w.heap.size + 1) rfl 67 _ (0, 0) _ hx0.out Tryz.underlying67 rfl (by kernel_rfl) ?_))
        | (with_reducible (show wpList _ _ _ (⟨_, .load 67 _, _, _, _, none⟩ :: _) _ w1); go_must (refine wpList_load_row rfl 67 _ rfl (w.heap.size + 1) rfl 67 _ (0, 0) _ hx1.out Tryz.underlying67 rfl (by kernel_rfl) ?_))
        | (with_reducible (show wpList _ _ _ (⟨_, .load 67 _, _, _, _, none⟩ :: _) _ w2); go_must (refine wpList_load_row rfl 67 _ rfl (w.heap.size + 1) rfl 67 _ (0, 0) _ hx2.out Tryz.underlying67 rfl (by kernel_rfl) ?_)))
      refine bodyPost_ret (v := .agg #[.slice a k cap, .slice a1 (k + 1) c1, .slice a2 (k + 2) c2, .slice a3 (k + 3) c3, .int .i64 mark]) (results_cell_row Tryz.results91 _ _ w.heap.size 85 _ (0, 0) _ rfl (setRow_heap _ _ _ _ _ _ hbk.out) Tryz.underlying85 rfl (by kernel_rfl)) rfl ⟨_, _, _, rfl, ?_⟩
      exact marks_end hf (by omega) hbz.out HO.out H1 H2 H3 _

set_option maxRecDepth 100000 in
set_option maxHeartbeats 1000000 in
theorem ownLeaves_any (v : Value) (n : Nat) (xs : List Value) (mark : Int) (w : World) (m0 : 0 ≤ mark) (m1 : mark ≤ 4611686018427387904)
    (hown : w.ownsRow 0 69 4 v n xs) (hn : n ≤ 1000000) :
    Calls Tryz.prog 92 #[v, .int .i64 mark] w fun e w' => ∃ v1 v2 v3, e = .returned (.agg #[v, v1, v2, v3, .int .i64 mark]) ∧
      Marked w' 69 [.int .i64 0, .int .i64 (-1000 - mark), .int .i64 0, .int .i64 0] v ∧ Marked w' 69 [.int .i64 0, .int .i64 (-1000 - mark), .int .i64 0, .int .i64 0] v1 ∧ Marked w' 69 [.int .i64 0, .int .i64 (-1000 - mark), .int .i64 0, .int .i64 0] v2 ∧ Marked w' 69 [.int .i64 0, .int .i64 (-1000 - mark), .int .i64 0, .int .i64 0] v3 ∧
      Fr (fun k => v.ownBlock = some k) w w' ∧
      (∀ k, (v1.ownBlock = some k ∨ v2.ownBlock = some k ∨ v3.ownBlock = some k) → w.heap.size ≤ k ∨ v.ownBlock = some k) := by
  obtain ⟨len, cap, a, rfl, hlen⟩ : ∃ len cap a, v = .slice a len cap ∧ len = n := by
    rcases hown.2 with ⟨rfl, rfl⟩ | ⟨g, cap, cur, rfl, _⟩
    · exact ⟨_, _, _, rfl, rfl⟩
    · exact ⟨_, _, _, rfl, rfl⟩
  subst hlen
  have hlt0 := hid hown.lt
  obtain ⟨i0, hi, hz0, hz1, hz2⟩ := info_parts Tryz.infoN69
  go_enter Tryz.func92, Tryz.ntmps92
  go_wp2
  go_loopw [6] (fun i w' => ∃ (k : Nat) (ys : List Value), k ≤ len ∧ i = .int .i64 k ∧ w'.ownsRow 0 69 4 (.slice a len cap) len ys ∧ Hid (ys.take (k * 4) = rep k [.int .i64 0, .int .i64 (-1000 - mark), .int .i64 0, .int .i64 0]) ∧ Fr (fun k => Value.ownBlock (.slice a len cap) = some k) w w' ∧ w.heap.size + 2 ≤ w'.heap.size ∧ Hid (w'.heap[w.heap.size]? = some (.cells #[.slice none 0 0, .slice none 0 0, .slice none 0 0, .slice none 0 0, .int .i64 0] 87 (0, 0))) ∧ Hid (w'.heap[w.heap.size + 1]? = some (.cells #[.int .i64 0, .int .i64 (-1000 - mark), .int .i64 0, .int .i64 0] 69 (0, 0)))) (fun i _ => len - (intOf i).toNat)
  case atStart => exact ⟨0, xs, Nat.zero_le _, rfl, (hown.alloc _).alloc _, by simp [Hid, rep], ((Fr.refl _ _).alloc _).alloc _, by simp, heap_alloc2_old _ _ _, heap_alloc2_new _ _ _⟩
  case round =>
    obtain ⟨k, ys, hk, rfl, ho, hys, hf, hz, hcs, hx0⟩ := hrel
    by_cases hlt : k < len
    · rcases ho.2 with ⟨hx, hy⟩ | ⟨g, cap', cur, hx, _, hg, hnc, hcm, hsz, htk⟩
      · omega
      · simp only [Value.slice.injEq, true_and] at hx
        obtain ⟨rfl, rfl⟩ := hx
        have hlen : ys.length = len * 4 := ho.1
        have hbound : k * 4 + 4 ≤ len * 4 := by omega
        have HST := hid (setCells_owns [.int .i64 0, .int .i64 (-1000 - mark), .int .i64 0, .int .i64 0] (k * 4) _ _ ho)
        have hne : g ≠ w.heap.size := by have := hlt0.out g rfl; omega
        have hne1 : g ≠ w.heap.size + 1 := by have := hlt0.out g rfl; omega
        have HL : Hid (ys.length = len * 4) := hlen
        have HT := hid (owns_there ho (k * 4) 4 hbound)
        clear hg htk hlen
        go_wp2_with (first
          | (with_reducible (show wpList _ _ _ (⟨_, .load 69 _, _, _, _, none⟩ :: _) _ _); go_must (refine wpList_load_row rfl 69 _ rfl (w.heap.size + 1) rfl 69 _ (0, 0) _ hx0.out Tryz.underlying69 rfl (by kernel_rfl) ?_))
          | (with_reducible (show wpList _ _ _ (⟨_, .store 69 _ _, _, _, _, none⟩ :: _) _ _); go_must (refine wpList_store_mid rfl 69 _ _ rfl g (k * 4) #[.int .i64 0, .int .i64 (-1000 - mark), .int .i64 0, .int .i64 0] rfl rfl (by simpa using HT.out) (by kernel_rfl) ?_ ?_); (simp [Value.oneCell'])))
        refine ⟨⟨k + 1, setAt ys (k * 4) [.int .i64 0, .int .i64 (-1000 - mark), .int .i64 0, .int .i64 0], by omega, by go_num, HST.out.1, ?_, hf.trans ((Fr.grown HST.out.2).mono (fun q _ h => h)), Nat.le_trans hz HST.out.2.size, ?_, ?_⟩, by simp [intOf]; omega⟩
        · exact take_setAt_mark k [.int .i64 0, .int .i64 (-1000 - mark), .int .i64 0, .int .i64 0] ys (by simp [HL.out]; omega) hys.out
        · unfold Hid
          rw [HST.out.2.block _ (by omega) (fun h => hne (by simpa using h.symm))]; exact hcs.out
        · unfold Hid
          rw [HST.out.2.block _ (by omega) (fun h => hne1 (by simpa using h.symm))]; exact hx0.out
    · have ek : k = len := by omega
      subst ek
      have eys : ys = rep k [.int .i64 0, .int .i64 (-1000 - mark), .int .i64 0, .int .i64 0] := by
        have h := hys.out; rw [List.take_of_length_le (by have := ho.1; omega)] at h; exact h
      subst eys
      clear hys hown
      have HO := hid ho
      have hbz : Hid (Value.ownBlock (.slice a k cap) ≠ some w.heap.size) := fun h => by have := hlt0.out _ h; omega
      clear ho
      have hbx : Hid (Value.ownBlock (.slice a k cap) ≠ some (w.heap.size + 1)) := fun h => by have := hlt0.out _ h; omega
      go_wp2_with (first
        | (at_builtin; refine wpList_append_marks _ rfl _ _ 38 rfl 69 i0 (.agg #[.int .i64 0, .int .i64 0, .int .i64 0, .int .i64 0]) [.int .i64 0, .int .i64 (-1000 - mark), .int .i64 0, .int .i64 0] 32 Tryz.underlying38 hi hz0 hz1 hz2 rfl (by simp) (.slice a k cap) k rfl (HO.out.alloc _) ⟨wr.heap.size, 0, none⟩ 1 1 rfl (by decide) (fun j u h => cell_news _ #[.int .i64 0, .int .i64 (-1000 - mark), .int .i64 0, .int .i64 0] _ j u h) (fun u hu => by simp at hu; rcases hu with rfl | rfl | rfl | rfl <;> rfl) (by unfold maxLen; omega) (by omega) ?_; intro a1 c1 w1 H1; have hx1 : Hid (w1.heap[w.heap.size + 1]? = some (.cells #[.int .i64 0, .int .i64 (-1000 - mark), .int .i64 0, .int .i64 0] 69 (0, 0))) := by (rw [Hid, H1.block (by omega) hbx.out]; exact hx0.out))
        | (at_builtin; refine wpList_append_marks _ rfl _ _ 38 rfl 69 i0 (.agg #[.int .i64 0, .int .i64 0, .int .i64 0, .int .i64 0]) [.int .i64 0, .int .i64 (-1000 - mark), .int .i64 0, .int .i64 0] 32 Tryz.underlying38 hi hz0 hz1 hz2 rfl (by simp) (.slice a k cap) k rfl ((H1.2.2.2 _ _ (HO.out.alloc _)).alloc _) ⟨w1.heap.size, 0, none⟩ 2 2 rfl (by decide) (fun j u h => cell_news _ #[.int .i64 0, .int .i64 (-1000 - mark), .int .i64 0, .int .i64 0, .int .i64 0, .int .i64 (-1000 - mark), .int .i64 0, .int .i64 0] _ j u h) (fun u hu => by simp at hu; rcases hu with rfl | rfl | rfl | rfl <;> rfl) (by unfold maxLen; omega) (by omega) ?_; intro a2 c2 w2 H2; have hx2 : Hid (w2.heap[w.heap.size + 1]? = some (.cells #[.int .i64 0, .int .i64 (-1000 - mark), .int .i64 0, .int .i64 0] 69 (0, 0))) := by (rw [Hid, H2.block (by have := H1.size; omega) hbx.out]; exact hx1.out))
        | (at_builtin; refine wpList_append_marks _ rfl _ _ 38 rfl 69 i0 (.agg #[.int .i64 0, .int .i64 0, .int .i64 0, .int .i64 0]) [.int .i64 0, .int .i64 (-1000 - mark), .int .i64 0, .int .i64 0] 32 Tryz.underlying38 hi hz0 hz1 hz2 rfl (by simp) (.slice a k cap) k rfl ((H2.2.2.2 _ _ ((H1.2.2.2 _ _ (HO.out.alloc _)).alloc _)).alloc _) ⟨w2.heap.size, 0, none⟩ 3 3 rfl (by decide) (fun j u h => cell_news _ #[.int .i64 0, .int .i64 (-1000 - mark), .int .i64 0, .int .i64 0, .int .i64 0, .int .i64 (-1000 - mark), .int .i64 0, .int .i64 0, .int .i64 0, .int .i64 (-1000 - mark), .int .i64 0, .int .i64 0] _ j u h) (fun u hu => by simp at hu; rcases hu with rfl | rfl | rfl | rfl <;> rfl) (by unfold maxLen; omega) (by omega) ?_; intro a3 c3 w3 H3; have hbk : Hid (w3.heap[w.heap.size]? = some (.cells #[.slice none 0 0, .slice none 0 0, .slice none 0 0, .slice none 0 0, .int .i64 0] 87 (0, 0))) := by (rw [Hid, H3.block (by have := H1.size; have := H2.size; omega) hbz.out, H2.block (by have := H1.size; omega) hbz.out, H1.block (by omega) hbz.out]; exact hcs.out))
        | (with_reducible (show wpList _ _ _ (⟨_, .store 87 _ _, _, _, _, none⟩ :: _) _ _); go_must (refine wpList_store_row rfl 87 _ _ rfl w.heap.size #[.slice a k cap, .slice a1 (k + 1) c1, .slice a2 (k + 2) c2, .slice a3 (k + 3) c3, .int .i64 mark] rfl rfl 87 #[.slice none 0 0, .slice none 0 0, .slice none 0 0, .slice none 0 0, .int .i64 0] hbk.out (by kernel_rfl) rfl ?_ ?_); (simp [Value.oneCell']))
        | (with_reducible (show wpList _ _ _ (⟨_, .load 69 _, _, _, _, none⟩ :: _) _ wr); go_must (refine wpList_load_row rfl 69 _ rfl (w.heap.size + 1) rfl 69 _ (0, 0) _ hx0.out Tryz.underlying69 rfl (by kernel_rfl) ?_))
        | (with_reducible (show wpList _ _ _ (⟨_, .load 69 _, _, _, _, none⟩ :: _) _ w1); go_must (refine wpList_load_row rfl 69 _ rfl (w.heap.size + 1) rfl 69 _ (0, 0) _ hx1.out Tryz.underlying69 rfl (by kernel_rfl) ?_))
        | (with_reducible (show wpList _ _ _ (⟨_, .load 69 _, _, _, _, none⟩ :: _) _ w2); go_must (refine wpList_load_row rfl 69 _ rfl (w.heap.size + 1) rfl 69 _ (0, 0) _ hx2.out Tryz.underlying69 rfl (by kernel_rfl) ?_)))
      refine bodyPost_ret (v := .agg #[.slice a k cap, .slice a1 (k + 1) c1, .slice a2 (k + 2) c2, .slice a3 (k + 3) c3, .int .i64 mark]) (results_cell_row Tryz.results92 _ _ w.heap.size 87 _ (0, 0) _ rfl (setRow_heap _ _ _ _ _ _ hbk.out) Tryz.underlying87 rfl (by kernel_rfl)) rfl ⟨_, _, _, rfl, ?_⟩
      exact marks_end hf (by omega) hbz.out HO.out H1 H2 H3 _

end Go.Proofs.YtgiiegppaleldaaGreatDoor
