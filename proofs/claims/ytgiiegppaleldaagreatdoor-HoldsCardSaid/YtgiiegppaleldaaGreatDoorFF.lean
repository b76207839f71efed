import Derived.Test.YtgiiegppaleldaaGreatDoorEE
/- Space. -/
namespace Go.Proofs.YtgiiegppaleldaaGreatDoor
open Go.RowKit

def pa (o : Option (Int × Int × Int × Int)) : Int := match o with | none => 0 | some p => p.2.2.1
def pb (o : Option (Int × Int × Int × Int)) : Int := match o with | none => 0 | some p => p.2.2.2
theorem cell2_eq (o : Option (Int × Int × Int × Int)) : cell2 o = [.int .i64 (pa o), .int .i64 (pb o)] := by cases o <;> rfl
theorem six_eq (L : List (Int × Int × Int × Int)) (s : Int) : six L s = [.int .i64 (pa (findQ L s 0)), .int .i64 (pb (findQ L s 0)), .int .i64 (pa (findQ L s 1)), .int .i64 (pb (findQ L s 1)), .int .i64 (pa (findQ L s 2)), .int .i64 (pb (findQ L s 2)), .int .i64 (pa (findQ L s 3)), .int .i64 (pb (findQ L s 3)), .int .i64 (pa (findQ L s 4)), .int .i64 (pb (findQ L s 4)), .int .i64 (pa (findQ L s 5)), .int .i64 (pb (findQ L s 5))] := by
  unfold six; simp only [cell2_eq]; rfl

theorem find_mem {L : List (Int × Int × Int × Int)} {s n : Int} {p : Int × Int × Int × Int} (h : findQ L s n = some p) : (∃ i : Nat, L[i]? = some p) ∧ p.1 = s ∧ p.2.1 = n := by
  unfold findQ at h
  have h1 := List.mem_of_find?_eq_some h
  have h2 := List.find?_some h
  simp at h2
  exact ⟨List.mem_iff_getElem?.1 h1, h2⟩

theorem told_no {L : List (Int × Int × Int × Int)} (hr : ∀ (i : Nat) p, L[i]? = some p → p.2.2.2 ≠ 0) {s : Int} {k : Nat} (h : pb (findQ L s k) = 0) : told L s (k + 1) = told L s k := by
  rcases hf : findQ L s k with _ | p
  · simp [told, hf]
  · obtain ⟨⟨i, hi⟩, _⟩ := find_mem hf
    rw [hf] at h
    exact absurd h (hr i p hi)
theorem told_yes {L : List (Int × Int × Int × Int)} {s : Int} {k : Nat} (h : pb (findQ L s k) ≠ 0) : (told L s (k + 1)).map qRow = (told L s k).map qRow ++ [[.int .i64 s, .int .i64 k, .int .i64 (pa (findQ L s k)), .int .i64 (pb (findQ L s k))]] := by
  rcases hf : findQ L s k with _ | p
  · rw [hf] at h; exact absurd rfl h
  · obtain ⟨_, h1, h2⟩ := find_mem hf
    simp [told, hf, qRow, pa, pb, h1, h2]

theorem Tryz.ix213_0 (a0 a1 a2 a3 a4 a5 a6 a7 a8 a9 a10 a11 : Int) (w : World) : (Instr.index 213 (.agg #[.int .i64 a0, .int .i64 a1, .int .i64 a2, .int .i64 a3, .int .i64 a4, .int .i64 a5, .int .i64 a6, .int .i64 a7, .int .i64 a8, .int .i64 a9, .int .i64 a10, .int .i64 a11]) (.int .i64 0)).run Tryz.prog w = .ok (.agg #[.int .i64 a0, .int .i64 a1]) w := by kernel_rfl
theorem Tryz.ix213_1 (a0 a1 a2 a3 a4 a5 a6 a7 a8 a9 a10 a11 : Int) (w : World) : (Instr.index 213 (.agg #[.int .i64 a0, .int .i64 a1, .int .i64 a2, .int .i64 a3, .int .i64 a4, .int .i64 a5, .int .i64 a6, .int .i64 a7, .int .i64 a8, .int .i64 a9, .int .i64 a10, .int .i64 a11]) (.int .i64 1)).run Tryz.prog w = .ok (.agg #[.int .i64 a2, .int .i64 a3]) w := by kernel_rfl
theorem Tryz.ix213_2 (a0 a1 a2 a3 a4 a5 a6 a7 a8 a9 a10 a11 : Int) (w : World) : (Instr.index 213 (.agg #[.int .i64 a0, .int .i64 a1, .int .i64 a2, .int .i64 a3, .int .i64 a4, .int .i64 a5, .int .i64 a6, .int .i64 a7, .int .i64 a8, .int .i64 a9, .int .i64 a10, .int .i64 a11]) (.int .i64 2)).run Tryz.prog w = .ok (.agg #[.int .i64 a4, .int .i64 a5]) w := by kernel_rfl
theorem Tryz.ix213_3 (a0 a1 a2 a3 a4 a5 a6 a7 a8 a9 a10 a11 : Int) (w : World) : (Instr.index 213 (.agg #[.int .i64 a0, .int .i64 a1, .int .i64 a2, .int .i64 a3, .int .i64 a4, .int .i64 a5, .int .i64 a6, .int .i64 a7, .int .i64 a8, .int .i64 a9, .int .i64 a10, .int .i64 a11]) (.int .i64 3)).run Tryz.prog w = .ok (.agg #[.int .i64 a6, .int .i64 a7]) w := by kernel_rfl
theorem Tryz.ix213_4 (a0 a1 a2 a3 a4 a5 a6 a7 a8 a9 a10 a11 : Int) (w : World) : (Instr.index 213 (.agg #[.int .i64 a0, .int .i64 a1, .int .i64 a2, .int .i64 a3, .int .i64 a4, .int .i64 a5, .int .i64 a6, .int .i64 a7, .int .i64 a8, .int .i64 a9, .int .i64 a10, .int .i64 a11]) (.int .i64 4)).run Tryz.prog w = .ok (.agg #[.int .i64 a8, .int .i64 a9]) w := by kernel_rfl
theorem Tryz.ix213_5 (a0 a1 a2 a3 a4 a5 a6 a7 a8 a9 a10 a11 : Int) (w : World) : (Instr.index 213 (.agg #[.int .i64 a0, .int .i64 a1, .int .i64 a2, .int .i64 a3, .int .i64 a4, .int .i64 a5, .int .i64 a6, .int .i64 a7, .int .i64 a8, .int .i64 a9, .int .i64 a10, .int .i64 a11]) (.int .i64 5)).run Tryz.prog w = .ok (.agg #[.int .i64 a10, .int .i64 a11]) w := by kernel_rfl

set_option maxRecDepth 100000 in
set_option maxHeartbeats 8000000 in
theorem tellPasses_any (g o : Nat) (t : Int) (P : List (Int × Int × Int × Int)) (w : World) (_hg : g < w.heap.size) (hr : w.rangeAt g (o) [.int .i64 (pa (findQ P t 0)), .int .i64 (pb (findQ P t 0)), .int .i64 (pa (findQ P t 1)), .int .i64 (pb (findQ P t 1)), .int .i64 (pa (findQ P t 2)), .int .i64 (pb (findQ P t 2)), .int .i64 (pa (findQ P t 3)), .int .i64 (pb (findQ P t 3)), .int .i64 (pa (findQ P t 4)), .int .i64 (pb (findQ P t 4)), .int .i64 (pa (findQ P t 5)), .int .i64 (pb (findQ P t 5))]) (hk : ∀ (i : Nat) p, P[i]? = some p → p.2.2.2 ≠ 0) :
    Calls Tryz.prog 115 #[.pointer (some ⟨g, o, none⟩), .int .i64 t] w fun e w' => ∃ a n c, e = .returned (.slice a n c) ∧ Sl w' 67 4 (.slice a n c) ((told P t 6).map qRow) ∧ Below w.heap.size w w' ∧ ∀ b, Value.ownBlock (.slice a n c) = some b → w.heap.size ≤ b := by
  obtain ⟨i0, hi0, hz0, hz1, hz2⟩ := info_parts Tryz.infoN67
  have HR := hid hr
  have HK := hid hk
  clear hr hk
  go_enter Tryz.func115, Tryz.ntmps115
  go_wp2_with (with_reducible (show wpList _ _ _ (⟨_, .load 213 _, _, _, _, none⟩ :: _) _ _); go_must (refine wpList_load_mid rfl 213 _ rfl g (o) rfl _ _ HR.out Tryz.underlying213 rfl (by kernel_rfl) ?_))
  go_loopw [5, 12] (fun v i wr => ∃ (k n : Nat) (a : Option Addr) (c : Nat), k ≤ 6 ∧ i = .int .i64 k ∧ v = .slice a n c ∧ Hid ((told P t k).length = n ∧ Sl wr 67 4 (.slice a n c) ((told P t k).map qRow) ∧ Below w.heap.size w wr ∧ ∀ b, Value.ownBlock (.slice a n c) = some b → w.heap.size ≤ b)) (fun _ i _ => 6 - (intOf i).toNat)
  case atStart => exact ⟨0, 0, none, 0, Nat.zero_le _, rfl, rfl, rfl, Sl.nil w 67 4, Below.refl _ _, fun b hb => by simp [Value.ownBlock] at hb⟩
  case round =>
    obtain ⟨k, n, a, c, hk, rfl, rfl, HI⟩ := hrel
    have hn : n ≤ 6 := by have := told_le P t k; have := HI.out.1; omega
    by_cases hlt : k < 6
    · have hix : ∀ w, (Instr.index 213 (.agg #[.int .i64 (pa (findQ P t 0)), .int .i64 (pb (findQ P t 0)), .int .i64 (pa (findQ P t 1)), .int .i64 (pb (findQ P t 1)), .int .i64 (pa (findQ P t 2)), .int .i64 (pb (findQ P t 2)), .int .i64 (pa (findQ P t 3)), .int .i64 (pb (findQ P t 3)), .int .i64 (pa (findQ P t 4)), .int .i64 (pb (findQ P t 4)), .int .i64 (pa (findQ P t 5)), .int .i64 (pb (findQ P t 5))]) (.int .i64 k)).run Tryz.prog w = .ok (.agg #[.int .i64 (pa (findQ P t k)), .int .i64 (pb (findQ P t k))]) w := by
        intro w
        have h6 : k = 0 ∨ k = 1 ∨ k = 2 ∨ k = 3 ∨ k = 4 ∨ k = 5 := by omega
        rcases h6 with rfl | rfl | rfl | rfl | rfl | rfl
        · exact Tryz.ix213_0 _ _ _ _ _ _ _ _ _ _ _ _ w
        · exact Tryz.ix213_1 _ _ _ _ _ _ _ _ _ _ _ _ w
        · exact Tryz.ix213_2 _ _ _ _ _ _ _ _ _ _ _ _ w
        · exact Tryz.ix213_3 _ _ _ _ _ _ _ _ _ _ _ _ w
        · exact Tryz.ix213_4 _ _ _ _ _ _ _ _ _ _ _ _ w
        · exact Tryz.ix213_5 _ _ _ _ _ _ _ _ _ _ _ _ w
      have TN : Hid (pb (findQ P t k) = 0 → told P t (k + 1) = told P t k) := told_no HK.out
      have TY : Hid (pb (findQ P t k) ≠ 0 → (told P t (k + 1)).map qRow = (told P t k).map qRow ++ [[.int .i64 t, .int .i64 k, .int .i64 (pa (findQ P t k)), .int .i64 (pb (findQ P t k))]]) := told_yes
      generalize pa (findQ P t k) = A at hix TY
      generalize pb (findQ P t k) = B at hix TY TN
      by_cases hB : B = 0
      · have hB' : (B != 0) = false := by simp [hB]
        have HB := hid hB
        clear hB
        go_wp2
        refine ⟨⟨k + 1, n, a, c, by omega, by go_num, rfl, ?_⟩, by simp [intOf]; omega⟩
        have e := TN.out HB.out
        exact ⟨by rw [e]; exact HI.out.1, by rw [e]; exact HI.out.2.1.alloc _, HI.out.2.2.1.alloc HI.out.2.2.1.size _, HI.out.2.2.2⟩
      · have hB' : (B != 0) = true := by simp [hB]
        have HB := hid hB
        clear hB
        go_wp2_with (at_builtin; go_must (refine wpList_append_sl _ rfl _ _ 37 rfl 67 i0 _ 4 32 Tryz.underlying37 hi0 hz0 hz1 hz2 rfl (by decide) (.slice a n c) ((told P t k).map qRow) rfl ((HI.out.2.1.alloc _).alloc _) ⟨wr.heap.size + 1, 0, none⟩ 1 1 [[.int .i64 t, .int .i64 k, .int .i64 A, .int .i64 B]] rfl rfl (by decide) (by simp) (fun j u h => cell_news2 wr _ #[.int .i64 t, .int .i64 k, .int .i64 A, .int .i64 B] 67 j u (by simpa using h)) (fun u hu => by simp at hu; rcases hu with rfl | rfl | rfl | rfl <;> rfl) (by have := HI.out.1; rw [List.length_map]; unfold maxLen; omega) (by have := HI.out.1; rw [List.length_map]; omega) ?_); intro a4 c4 w4 G4)
        rw [List.length_map] at G4
        have e := TY.out HB.out
        have el : (told P t (k + 1)).length = (told P t k).length + 1 := by have := congrArg List.length e; simpa using this
        have F4 : Fr (fun q => w.heap.size ≤ q) wr w4 := G4.fr (((Fr.refl _ wr).alloc _).alloc _) (fun q hq _ => HI.out.2.2.2 q hq)
        refine ⟨⟨k + 1, _, a4, c4, by omega, by go_num, rfl, el, by rw [e]; exact G4.sl, HI.out.2.2.1.trans (F4.to_below HI.out.2.2.1.size (fun _ h => h)), fun b hb => ?_⟩, by simp [intOf]; omega⟩
        rcases G4.at_ b hb with h | h
        · have := HI.out.2.2.1.size
          simp at h
          omega
        · exact HI.out.2.2.2 b h
    · have hk6 : k = 6 := by omega
      subst hk6
      go_wp2
      go_ret
      exact ⟨_, _, _, rfl, HI.out.2.1, HI.out.2.2.1, HI.out.2.2.2⟩

theorem Tryz.ix214_0 (a0 a1 a2 a3 a4 a5 a6 a7 a8 a9 a10 a11 : Int) (w : World) : (Instr.index 214 (.agg #[.int .i64 a0, .int .i64 a1, .int .i64 a2, .int .i64 a3, .int .i64 a4, .int .i64 a5, .int .i64 a6, .int .i64 a7, .int .i64 a8, .int .i64 a9, .int .i64 a10, .int .i64 a11]) (.int .i64 0)).run Tryz.prog w = .ok (.agg #[.int .i64 a0, .int .i64 a1]) w := by kernel_rfl
theorem Tryz.ix214_1 (a0 a1 a2 a3 a4 a5 a6 a7 a8 a9 a10 a11 : Int) (w : World) : (Instr.index 214 (.agg #[.int .i64 a0, .int .i64 a1, .int .i64 a2, .int .i64 a3, .int .i64 a4, .int .i64 a5, .int .i64 a6, .int .i64 a7, .int .i64 a8, .int .i64 a9, .int .i64 a10, .int .i64 a11]) (.int .i64 1)).run Tryz.prog w = .ok (.agg #[.int .i64 a2, .int .i64 a3]) w := by kernel_rfl
theorem Tryz.ix214_2 (a0 a1 a2 a3 a4 a5 a6 a7 a8 a9 a10 a11 : Int) (w : World) : (Instr.index 214 (.agg #[.int .i64 a0, .int .i64 a1, .int .i64 a2, .int .i64 a3, .int .i64 a4, .int .i64 a5, .int .i64 a6, .int .i64 a7, .int .i64 a8, .int .i64 a9, .int .i64 a10, .int .i64 a11]) (.int .i64 2)).run Tryz.prog w = .ok (.agg #[.int .i64 a4, .int .i64 a5]) w := by kernel_rfl
theorem Tryz.ix214_3 (a0 a1 a2 a3 a4 a5 a6 a7 a8 a9 a10 a11 : Int) (w : World) : (Instr.index 214 (.agg #[.int .i64 a0, .int .i64 a1, .int .i64 a2, .int .i64 a3, .int .i64 a4, .int .i64 a5, .int .i64 a6, .int .i64 a7, .int .i64 a8, .int .i64 a9, .int .i64 a10, .int .i64 a11]) (.int .i64 3)).run Tryz.prog w = .ok (.agg #[.int .i64 a6, .int .i64 a7]) w := by kernel_rfl
theorem Tryz.ix214_4 (a0 a1 a2 a3 a4 a5 a6 a7 a8 a9 a10 a11 : Int) (w : World) : (Instr.index 214 (.agg #[.int .i64 a0, .int .i64 a1, .int .i64 a2, .int .i64 a3, .int .i64 a4, .int .i64 a5, .int .i64 a6, .int .i64 a7, .int .i64 a8, .int .i64 a9, .int .i64 a10, .int .i64 a11]) (.int .i64 4)).run Tryz.prog w = .ok (.agg #[.int .i64 a8, .int .i64 a9]) w := by kernel_rfl
theorem Tryz.ix214_5 (a0 a1 a2 a3 a4 a5 a6 a7 a8 a9 a10 a11 : Int) (w : World) : (Instr.index 214 (.agg #[.int .i64 a0, .int .i64 a1, .int .i64 a2, .int .i64 a3, .int .i64 a4, .int .i64 a5, .int .i64 a6, .int .i64 a7, .int .i64 a8, .int .i64 a9, .int .i64 a10, .int .i64 a11]) (.int .i64 5)).run Tryz.prog w = .ok (.agg #[.int .i64 a10, .int .i64 a11]) w := by kernel_rfl

set_option maxRecDepth 100000 in
set_option maxHeartbeats 8000000 in
theorem tellLeaves_any (g o : Nat) (t : Int) (P : List (Int × Int × Int × Int)) (w : World) (_hg : g < w.heap.size) (hr : w.rangeAt g (o + 12) [.int .i64 (pa (findQ P t 0)), .int .i64 (pb (findQ P t 0)), .int .i64 (pa (findQ P t 1)), .int .i64 (pb (findQ P t 1)), .int .i64 (pa (findQ P t 2)), .int .i64 (pb (findQ P t 2)), .int .i64 (pa (findQ P t 3)), .int .i64 (pb (findQ P t 3)), .int .i64 (pa (findQ P t 4)), .int .i64 (pb (findQ P t 4)), .int .i64 (pa (findQ P t 5)), .int .i64 (pb (findQ P t 5))]) (hk : ∀ (i : Nat) p, P[i]? = some p → p.2.2.2 ≠ 0) :
    Calls Tryz.prog 116 #[.pointer (some ⟨g, o, none⟩), .int .i64 t] w fun e w' => ∃ a n c, e = .returned (.slice a n c) ∧ Sl w' 69 4 (.slice a n c) ((told P t 6).map qRow) ∧ Below w.heap.size w w' ∧ ∀ b, Value.ownBlock (.slice a n c) = some b → w.heap.size ≤ b := by
  obtain ⟨i0, hi0, hz0, hz1, hz2⟩ := info_parts Tryz.infoN69
  have HR := hid hr
  have HK := hid hk
  clear hr hk
  go_enter Tryz.func116, Tryz.ntmps116
  go_wp2_with (with_reducible (show wpList _ _ _ (⟨_, .load 214 _, _, _, _, none⟩ :: _) _ _); go_must (refine wpList_load_mid rfl 214 _ rfl g (o + 12) rfl _ _ HR.out Tryz.underlying214 rfl (by kernel_rfl) ?_))
  go_loopw [5, 12] (fun v i wr => ∃ (k n : Nat) (a : Option Addr) (c : Nat), k ≤ 6 ∧ i = .int .i64 k ∧ v = .slice a n c ∧ Hid ((told P t k).length = n ∧ Sl wr 69 4 (.slice a n c) ((told P t k).map qRow) ∧ Below w.heap.size w wr ∧ ∀ b, Value.ownBlock (.slice a n c) = some b → w.heap.size ≤ b)) (fun _ i _ => 6 - (intOf i).toNat)
  case atStart => exact ⟨0, 0, none, 0, Nat.zero_le _, rfl, rfl, rfl, Sl.nil w 69 4, Below.refl _ _, fun b hb => by simp [Value.ownBlock] at hb⟩
  case round =>
    obtain ⟨k, n, a, c, hk, rfl, rfl, HI⟩ := hrel
    have hn : n ≤ 6 := by have := told_le P t k; have := HI.out.1; omega
    by_cases hlt : k < 6
    · have hix : ∀ w, (Instr.index 214 (.agg #[.int .i64 (pa (findQ P t 0)), .int .i64 (pb (findQ P t 0)), .int .i64 (pa (findQ P t 1)), .int .i64 (pb (findQ P t 1)), .int .i64 (pa (findQ P t 2)), .int .i64 (pb (findQ P t 2)), .int .i64 (pa (findQ P t 3)), .int .i64 (pb (findQ P t 3)), .int .i64 (pa (findQ P t 4)), .int .i64 (pb (findQ P t 4)), .int .i64 (pa (findQ P t 5)), .int .i64 (pb (findQ P t 5))]) (.int .i64 k)).run Tryz.prog w = .ok (.agg #[.int .i64 (pa (findQ P t k)), .int .i64 (pb (findQ P t k))]) w := by
        intro w
        have h6 : k = 0 ∨ k = 1 ∨ k = 2 ∨ k = 3 ∨ k = 4 ∨ k = 5 := by omega
        rcases h6 with rfl | rfl | rfl | rfl | rfl | rfl
        · exact Tryz.ix214_0 _ _ _ _ _ _ _ _ _ _ _ _ w
        · exact Tryz.ix214_1 _ _ _ _ _ _ _ _ _ _ _ _ w
        · exact Tryz.ix214_2 _ _ _ _ _ _ _ _ _ _ _ _ w
        · exact Tryz.ix214_3 _ _ _ _ _ _ _ _ _ _ _ _ w
        · exact Tryz.ix214_4 _ _ _ _ _ _ _ _ _ _ _ _ w
        · exact Tryz.ix214_5 _ _ _ _ _ _ _ _ _ _ _ _ w
      have TN : Hid (pb (findQ P t k) = 0 → told P t (k + 1) = told P t k) := told_no HK.out
      have TY : Hid (pb (findQ P t k) ≠ 0 → (told P t (k + 1)).map qRow = (told P t k).map qRow ++ [[.int .i64 t, .int .i64 k, .int .i64 (pa (findQ P t k)), .int .i64 (pb (findQ P t k))]]) := told_yes
      generalize pa (findQ P t k) = A at hix TY
      generalize pb (findQ P t k) = B at hix TY TN
      by_cases hB : B = 0
      · have hB' : (B != 0) = false := by simp [hB]
        have HB := hid hB
        clear hB
        go_wp2
        refine ⟨⟨k + 1, n, a, c, by omega, by go_num, rfl, ?_⟩, by simp [intOf]; omega⟩
        have e := TN.out HB.out
        exact ⟨by rw [e]; exact HI.out.1, by rw [e]; exact HI.out.2.1.alloc _, HI.out.2.2.1.alloc HI.out.2.2.1.size _, HI.out.2.2.2⟩
      · have hB' : (B != 0) = true := by simp [hB]
        have HB := hid hB
        clear hB
        go_wp2_with (at_builtin; go_must (refine wpList_append_sl _ rfl _ _ 38 rfl 69 i0 _ 4 32 Tryz.underlying38 hi0 hz0 hz1 hz2 rfl (by decide) (.slice a n c) ((told P t k).map qRow) rfl ((HI.out.2.1.alloc _).alloc _) ⟨wr.heap.size + 1, 0, none⟩ 1 1 [[.int .i64 t, .int .i64 k, .int .i64 A, .int .i64 B]] rfl rfl (by decide) (by simp) (fun j u h => cell_news2 wr _ #[.int .i64 t, .int .i64 k, .int .i64 A, .int .i64 B] 69 j u (by simpa using h)) (fun u hu => by simp at hu; rcases hu with rfl | rfl | rfl | rfl <;> rfl) (by have := HI.out.1; rw [List.length_map]; unfold maxLen; omega) (by have := HI.out.1; rw [List.length_map]; omega) ?_); intro a4 c4 w4 G4)
        rw [List.length_map] at G4
        have e := TY.out HB.out
        have el : (told P t (k + 1)).length = (told P t k).length + 1 := by have := congrArg List.length e; simpa using this
        have F4 : Fr (fun q => w.heap.size ≤ q) wr w4 := G4.fr (((Fr.refl _ wr).alloc _).alloc _) (fun q hq _ => HI.out.2.2.2 q hq)
        refine ⟨⟨k + 1, _, a4, c4, by omega, by go_num, rfl, el, by rw [e]; exact G4.sl, HI.out.2.2.1.trans (F4.to_below HI.out.2.2.1.size (fun _ h => h)), fun b hb => ?_⟩, by simp [intOf]; omega⟩
        rcases G4.at_ b hb with h | h
        · have := HI.out.2.2.1.size
          simp at h
          omega
        · exact HI.out.2.2.2 b h
    · have hk6 : k = 6 := by omega
      subst hk6
      go_wp2
      go_ret
      exact ⟨_, _, _, rfl, HI.out.2.1, HI.out.2.2.1, HI.out.2.2.2⟩
end Go.Proofs.YtgiiegppaleldaaGreatDoor
