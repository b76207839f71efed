import Derived.Test.YtgiiegppaleldaaGreatDoorOO
/- New of the machine. -/
namespace Go.Proofs.YtgiiegppaleldaaGreatDoor
open Go.RowKit

abbrev nilS : Value := .slice none 0 0

set_option maxRecDepth 100000 in
set_option maxHeartbeats 8000000 in
theorem mNew_yes (n : Nat) (aT aP aL : Option Addr) (mT mP mL cT cP cL : Nat) (T : List (Int × Int)) (Q L : List (Int × Int × Int × Int)) (w : World) (iT : Inl w 2 (.slice aT mT cT) (T.map tRow)) (iP : Inl w 4 (.slice aP mP cP) (Q.map qRow)) (iL : Inl w 4 (.slice aL mL cL) (L.map qRow))
    (eT : T.length = mT) (eP : Q.length = mP) (eL : L.length = mL) (hf : Fits n T Q L) :
    Calls Tryz.prog 39 #[.agg #[.int .i64 n, .slice aT mT cT, .slice aP mP cP, .slice aL mL cL]] w fun e w' => ∃ (x : Nat) (ln : Nat → List Nat) (vt : Value) (rv : Nat → Value) (vs : Value), e = .returned (.tuple #[.agg (mcells 0 vt (rv 0) (rv 1) (rv 2) (rv 3) vs), .nilIface]) ∧ MAt w' x 98 (mcells 0 vt (rv 0) (rv 1) (rv 2) (rv 3) vs) c00 (born 0 T) n Q L ln vt rv vs ∧ Lined (born 0 T) T.length ln ∧ Below w.heap.size w w' ∧ ∀ k, MOwn x vt rv vs k → w.heap.size ≤ k := by
  obtain ⟨⟨s1, s3⟩, ⟨t1, t6⟩, hf'⟩ := id hf
  have B := build_any (w.heap.size + 1 + 1) n aT aP aL mT mP mL cT cP cL T Q L (((w.alloc (.cells #[.int .i64 n, .slice aT mT cT, .slice aP mP cP, .slice aL mL cL] 40)).alloc (.cells (mcells 0 nilS nilS nilS nilS nilS nilS) 98)).alloc (.cells (mcells 0 nilS nilS nilS nilS nilS nilS) 98))
    (((iT.alloc (by omega) _).alloc (by omega) _).alloc (by omega) _) (((iP.alloc (by omega) _).alloc (by omega) _).alloc (by omega) _) (((iL.alloc (by omega) _).alloc (by omega) _).alloc (by omega) _) (by simp) eT eP eL
    (fun k hk => by have := iT.inlt (by omega) hk; omega) (fun k hk => by have := iP.inlt (by omega) hk; omega) (fun k hk => by have := iL.inlt (by omega) hk; omega)
    (by have := heap_alloc_new ((w.alloc (.cells #[.int .i64 n, .slice aT mT cT, .slice aP mP cP, .slice aL mL cL] 40)).alloc (.cells (mcells 0 nilS nilS nilS nilS nilS nilS) 98)) (.cells (mcells 0 nilS nilS nilS nilS nilS nilS) 98); simpa using this) (by omega) (by omega) (by omega) (by omega)
  have HB := hid (And.intro B hf)
  clear B hf hf' iT iP iL eT eP eL
  go_enter Tryz.func39, Tryz.ntmps39
  go_wp2_with fail
  refine HB.out.1.mono ?_
  rintro e w4 hD
  rcases hD with ⟨_, rfl, cs, ln, vt, rv, vs, M, Ln, St⟩ | ⟨h, _⟩
  rotate_left
  · exact absurd HB.out.2 h
  obtain ⟨a1, n1, c1, e1⟩ : ∃ a n c, vt = .slice a n c := by obtain ⟨a, c, h⟩ := M.th.slice; exact ⟨_, _, _, h⟩
  obtain ⟨b0, k0, d0, e20⟩ : ∃ a n c, rv 0 = .slice a n c := by obtain ⟨a, c, h⟩ := (M.li 0 (by omega)).slice; exact ⟨_, _, _, h⟩
  obtain ⟨b1, k1, d1, e21⟩ : ∃ a n c, rv 1 = .slice a n c := by obtain ⟨a, c, h⟩ := (M.li 1 (by omega)).slice; exact ⟨_, _, _, h⟩
  obtain ⟨b2, k2, d2, e22⟩ : ∃ a n c, rv 2 = .slice a n c := by obtain ⟨a, c, h⟩ := (M.li 2 (by omega)).slice; exact ⟨_, _, _, h⟩
  obtain ⟨b3, k3, d3, e23⟩ : ∃ a n c, rv 3 = .slice a n c := by obtain ⟨a, c, h⟩ := (M.li 3 (by omega)).slice; exact ⟨_, _, _, h⟩
  obtain ⟨a6, n6, c6, e6⟩ : ∃ a n c, vs = .slice a n c := by obtain ⟨a, c, h⟩ := M.sp.slice; exact ⟨_, _, _, h⟩
  have ecs := M.cs_eq
  subst ecs
  have em : mcells 0 vt (rv 0) (rv 1) (rv 2) (rv 3) vs = #[.int .u64 0, .slice a1 n1 c1, .slice b0 k0 d0, .slice b1 k1 d1, .slice b2 k2 d2, .slice b3 k3 d3, .slice a6 n6 c6, .int .i64 0, .int .i64 0, .int .i64 0, .int .i64 0, .int .i64 0, .int .i64 0, .int .i64 0, .int .i64 0, .int .i64 0, .int .i64 0, .int .i64 0, .int .i64 0, .int .i64 0, .int .i64 0, .int .i64 0, .int .i64 0, .int .i64 0, .int .i64 0, .int .i64 0, .int .i64 0, .int .i64 0, .int .i64 0, .int .i64 0, .int .i64 0, .int .i64 0, .int .i64 0, .int .i64 0, .int .i64 0, .int .i64 0, .int .i64 0, .int .i64 0, .int .i64 0] := by rw [e1, e20, e21, e22, e23, e6]; rfl
  have hblk := M.blk
  rw [em] at hblk
  have R : w4.rangeAt (w.heap.size + 1 + 1) 0 [.int .u64 0, .slice a1 n1 c1, .slice b0 k0 d0, .slice b1 k1 d1, .slice b2 k2 d2, .slice b3 k3 d3, .slice a6 n6 c6, .int .i64 0, .int .i64 0, .int .i64 0, .int .i64 0, .int .i64 0, .int .i64 0, .int .i64 0, .int .i64 0, .int .i64 0, .int .i64 0, .int .i64 0, .int .i64 0, .int .i64 0, .int .i64 0, .int .i64 0, .int .i64 0, .int .i64 0, .int .i64 0, .int .i64 0, .int .i64 0, .int .i64 0, .int .i64 0, .int .i64 0, .int .i64 0, .int .i64 0, .int .i64 0, .int .i64 0, .int .i64 0, .int .i64 0, .int .i64 0, .int .i64 0, .int .i64 0] := fun j v hv => by
    rw [cell_of_row w4 _ (0 + j) _ _ _ hblk, Nat.zero_add, List.getElem?_toArray]; exact hv
  have hres : w4.heap[w.heap.size + 1]? = some (.cells (mcells 0 nilS nilS nilS nilS nilS nilS) 98 (0, 0)) := by
    rw [St.fr.block _ (by simp) (by omega), Below.heap_alloc _ _ _ (by simp), Below.heap_alloc _ _ _ (by simp)]
    have := heap_alloc_new (w.alloc (.cells #[.int .i64 n, .slice aT mT cT, .slice aP mP cP, .slice aL mL cL] 40)) (.cells (mcells 0 nilS nilS nilS nilS nilS nilS) 98)
    simpa using this
  have HH := hid (And.intro M (And.intro Ln (And.intro St (And.intro em (And.intro R (And.intro hres hblk))))))
  clear M Ln St e1 e20 e21 e22 e23 e6 em hblk R hres
  go_wp2_with (first
    | (with_reducible (show wpList _ _ _ (⟨_, .load 98 _, _, _, _, none⟩ :: _) _ _); go_must (refine wpList_load_mid rfl 98 _ rfl (w.heap.size + 1 + 1) 0 rfl _ _ HH.out.2.2.2.2.1 Tryz.underlying98 rfl (by kernel_rfl) ?_))
    | (with_reducible (show wpList _ _ _ (⟨_, .store 98 _ _, _, _, _, none⟩ :: _) _ _); go_must (refine wpList_store_row rfl 98 _ _ rfl (w.heap.size + 1) #[.int .u64 0, .slice a1 n1 c1, .slice b0 k0 d0, .slice b1 k1 d1, .slice b2 k2 d2, .slice b3 k3 d3, .slice a6 n6 c6, .int .i64 0, .int .i64 0, .int .i64 0, .int .i64 0, .int .i64 0, .int .i64 0, .int .i64 0, .int .i64 0, .int .i64 0, .int .i64 0, .int .i64 0, .int .i64 0, .int .i64 0, .int .i64 0, .int .i64 0, .int .i64 0, .int .i64 0, .int .i64 0, .int .i64 0, .int .i64 0, .int .i64 0, .int .i64 0, .int .i64 0, .int .i64 0, .int .i64 0, .int .i64 0, .int .i64 0, .int .i64 0, .int .i64 0, .int .i64 0, .int .i64 0, .int .i64 0] (by simp [Act.eval, Act.put]) rfl 98 _ HH.out.2.2.2.2.2.1 (by kernel_rfl) rfl ?_ ?_); (simp [Value.oneCell'])))
  have St := HH.out.2.2.1
  have hg := setRow_heap w4 (w.heap.size + 1) _ #[.int .u64 0, .slice a1 n1 c1, .slice b0 k0 d0, .slice b1 k1 d1, .slice b2 k2 d2, .slice b3 k3 d3, .slice a6 n6 c6, .int .i64 0, .int .i64 0, .int .i64 0, .int .i64 0, .int .i64 0, .int .i64 0, .int .i64 0, .int .i64 0, .int .i64 0, .int .i64 0, .int .i64 0, .int .i64 0, .int .i64 0, .int .i64 0, .int .i64 0, .int .i64 0, .int .i64 0, .int .i64 0, .int .i64 0, .int .i64 0, .int .i64 0, .int .i64 0, .int .i64 0, .int .i64 0, .int .i64 0, .int .i64 0, .int .i64 0, .int .i64 0, .int .i64 0, .int .i64 0, .int .i64 0, .int .i64 0] 98 (0, 0) HH.out.2.2.2.2.2.1
  have F : Fr (fun k => k = w.heap.size + 1) w4 (w4.setRow (w.heap.size + 1) #[.int .u64 0, .slice a1 n1 c1, .slice b0 k0 d0, .slice b1 k1 d1, .slice b2 k2 d2, .slice b3 k3 d3, .slice a6 n6 c6, .int .i64 0, .int .i64 0, .int .i64 0, .int .i64 0, .int .i64 0, .int .i64 0, .int .i64 0, .int .i64 0, .int .i64 0, .int .i64 0, .int .i64 0, .int .i64 0, .int .i64 0, .int .i64 0, .int .i64 0, .int .i64 0, .int .i64 0, .int .i64 0, .int .i64 0, .int .i64 0, .int .i64 0, .int .i64 0, .int .i64 0, .int .i64 0, .int .i64 0, .int .i64 0, .int .i64 0, .int .i64 0, .int .i64 0, .int .i64 0, .int .i64 0, .int .i64 0]) := (Fr.refl (fun k => k = w.heap.size + 1) w4).setRow (fun _ => rfl) _
  have hmo : ∀ k, MOwn (w.heap.size + 1 + 1) vt rv vs k → w.heap.size + 2 ≤ k := fun k hk => by
    rcases St.own k hk with e | e
    · omega
    · simp at e; omega
  refine bodyPost_ret (results_row_tmp Tryz.results39 _ _ (w.heap.size + 1) 98 _ (0, 0) _ _ rfl hg Tryz.underlying98 rfl (by kernel_rfl) rfl) rfl ⟨w.heap.size + 1 + 1, ln, vt, rv, vs, by rw [HH.out.2.2.2.1]; rfl, HH.out.1.kept F (fun k hk e => by have := hmo k hk; omega), HH.out.2.1, ?_, fun k hk => by have := hmo k hk; omega⟩
  have F0 : Below w.heap.size w (((w.alloc (.cells #[.int .i64 n, .slice aT mT cT, .slice aP mP cP, .slice aL mL cL] 40)).alloc (.cells (mcells 0 nilS nilS nilS nilS nilS nilS) 98)).alloc (.cells (mcells 0 nilS nilS nilS nilS nilS nilS) 98)) :=
    (((Below.refl _ w).alloc (Nat.le_refl _) _).alloc (by simp) _).alloc (by simp; omega) _
  have F1 := (Fr.refl (fun k => k = w.heap.size + 1 + 1) _).alloc _ |>.trans St.fr
  refine F0.trans ((F1.to_below (by simp; omega) (fun k e => by omega)).trans (F.to_below ?_ (fun k e => by omega)))
  have := F1.size
  simp at this
  omega
end Go.Proofs.YtgiiegppaleldaaGreatDoor
