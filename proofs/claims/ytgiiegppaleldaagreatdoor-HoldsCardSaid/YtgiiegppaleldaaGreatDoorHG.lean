import Derived.Test.YtgiiegppaleldaaGreatDoorJJ
/- The rows of the spaces behind a change of one slot or page. -/
namespace Go.Proofs.YtgiiegppaleldaaGreatDoor
open Go.RowKit

section
variable {Q Q' : List (Int × Int × Int × Int)} {s j : Nat} {o : Option (Int × Int × Int × Int)}

theorem six_upd (hj : j < 6) (hf : ∀ s' i : Int, findQ Q' s' i = if (s : Int) = s' ∧ (j : Int) = i then o else findQ Q s' i) : six Q' s = ((six Q s).set (j * 2) (.int .i64 (pa o))).set (j * 2 + 1) (.int .i64 (pb o)) := by
  have h6 : j = 0 ∨ j = 1 ∨ j = 2 ∨ j = 3 ∨ j = 4 ∨ j = 5 := by omega
  rw [six_eq, six_eq]
  simp only [hf]
  rcases h6 with rfl | rfl | rfl | rfl | rfl | rfl <;> simp
theorem six_same (hf : ∀ s' i : Int, findQ Q' s' i = if (s : Int) = s' ∧ (j : Int) = i then o else findQ Q s' i) {t : Int} (hne : (s : Int) ≠ t) : six Q' t = six Q t := by
  rw [six_eq, six_eq]
  simp only [hf, hne, false_and, if_false]

theorem rows_updP (n : Nat) (L : List (Int × Int × Int × Int)) (hs : s < n) (hj : j < 6) (hf : ∀ s' i : Int, findQ Q' s' i = if (s : Int) = s' ∧ (j : Int) = i then o else findQ Q s' i) :
    (spRows n Q L).set s (((spRow Q L s).set (j * 2) (.int .i64 (pa o))).set (j * 2 + 1) (.int .i64 (pb o))) = spRows n Q' L := by
  apply List.ext_getElem?
  intro i
  rw [List.getElem?_set]
  unfold spRows
  by_cases e : s = i
  · subst e
    rw [if_pos rfl]
    simp [hs, spRow, six_upd hj hf]
    rw [List.set_append_left _ _ (by rw [six_len]; omega), List.set_append_left _ _ (by rw [List.length_set, six_len]; omega)]
  · rw [if_neg e]
    simp only [List.getElem?_map]
    rcases Nat.lt_or_ge i n with hi | hi
    · rw [List.getElem?_range hi]
      simp only [Option.map_some, spRow]
      rw [six_same hf (t := (i : Int)) (by omega)]
    · rw [List.getElem?_eq_none (by simpa using hi)]; rfl
theorem rows_updL (n : Nat) (P : List (Int × Int × Int × Int)) (hs : s < n) (hj : j < 6) (hf : ∀ s' i : Int, findQ Q' s' i = if (s : Int) = s' ∧ (j : Int) = i then o else findQ Q s' i) :
    (spRows n P Q).set s (((spRow P Q s).set (12 + j * 2) (.int .i64 (pa o))).set (12 + j * 2 + 1) (.int .i64 (pb o))) = spRows n P Q' := by
  apply List.ext_getElem?
  intro i
  rw [List.getElem?_set]
  unfold spRows
  by_cases e : s = i
  · subst e
    rw [if_pos rfl]
    simp [hs, spRow, six_upd hj hf]
    rw [List.set_append_right _ _ (by rw [six_len]; omega), List.set_append_right _ _ (by rw [six_len]; omega), six_len]
    rw [show 12 + j * 2 - 12 = j * 2 by omega, show 12 + j * 2 + 1 - 12 = j * 2 + 1 by omega]
  · rw [if_neg e]
    simp only [List.getElem?_map]
    rcases Nat.lt_or_ge i n with hi | hi
    · rw [List.getElem?_range hi]
      simp only [Option.map_some, spRow]
      rw [six_same hf (t := (i : Int)) (by omega)]
    · rw [List.getElem?_eq_none (by simpa using hi)]; rfl
end

/-- A frame's cell is written. -/
theorem MAt.setFr {w : World} {x : Nat} {ty : TypeId} {cs : Array Value} {cl : Int × (Nat → Int)} {ts : List (Int × Int × Int × Int)} {n : Nat} {Q L : List (Int × Int × Int × Int)} {ln : Nat → List Nat} {vt : Value} {rv : Nat → Value} {vs : Value}
    (h : MAt w x ty cs cl ts n Q L ln vt rv vs) (j : Nat) (hj : j < 32) (a : Int) : MAt (w.setCell ⟨x, 7 + j, none⟩ (.int .i64 a)) x ty (cs.setIfInBounds (7 + j) (.int .i64 a)) (cl.1, frSet cl.2 j a) ts n Q L ln vt rv vs ∧ Fr (fun k => k = x) w (w.setCell ⟨x, 7 + j, none⟩ (.int .i64 a)) := by
  have F : Fr (fun k => k = x) w (w.setCell ⟨x, 7 + j, none⟩ (.int .i64 a)) := (Fr.refl (fun k => k = x) w).setCell (p := ⟨x, 7 + j, none⟩) (fun _ => rfl) _
  refine ⟨⟨heap_setCell_same w x (7 + j) cs ty _ h.blk, by simpa using h.size, ?_, ?_, ?_, ?_, h.th.kept F (fun k hk e => h.n1 (e ▸ hk)), fun r hr => (h.li r hr).kept F (fun k hk e => h.n2 r hr (e ▸ hk)), h.sp.kept F (fun k hk e => h.n3 (e ▸ hk)), h.n1, h.n2, h.n3, h.n4, h.n5, h.n6, fun i hi => ?_⟩, F⟩
  · rw [Array.getElem?_setIfInBounds_ne (by omega)]; exact h.c0
  · rw [Array.getElem?_setIfInBounds_ne (by omega)]; exact h.c1
  · intro r hr; rw [Array.getElem?_setIfInBounds_ne (by omega)]; exact h.row r hr
  · rw [Array.getElem?_setIfInBounds_ne (by omega)]; exact h.c6
  · by_cases e : i = j
    · subst e
      rw [Array.getElem?_setIfInBounds_self_of_lt (by have := h.size; omega)]
      simp [frSet]
    · rw [Array.getElem?_setIfInBounds_ne (by omega), h.fr i hi]
      simp [frSet, e]

/-- The space of the current thread, as a number. -/
theorem home_nat {K : RK} {n : Nat} (ok : K.Ok n) : ∃ (t : Nat) (u : Int × Int × Int × Int) (s : Nat), curTo K.threads K.threads.length = t ∧ K.threads[t]? = some u ∧ u.1 = s ∧ K.home = s ∧ s < K.sp.toNat := by
  obtain ⟨t, u, et, hu⟩ := cur_nat ok.one
  have h := ok.hm t u hu
  obtain ⟨s, hs⟩ := Int.eq_ofNat_of_zero_le h.1
  refine ⟨t, u, s, et, hu, hs, ?_, by omega⟩
  unfold RK.home
  rw [et, Int.toNat_natCast, hu]
  exact hs
end Go.Proofs.YtgiiegppaleldaaGreatDoor

/- home, slot, page, cell, leaf of the machine. -/
namespace Go.Proofs.YtgiiegppaleldaaGreatDoor
open Go.RowKit

theorem coreHolds_any (a b : Int) (w : World) : Calls Tryz.prog 109 #[.int .i64 a, .int .i64 b] w fun e w' => e = .returned (.bool (bits .and .i64 a b == b)) ∧ w' = w := by
  go_enter Tryz.func109, Tryz.ntmps109
  go_wp2
  go_ret
  exact ⟨rfl, rfl⟩

theorem pickP_no (g o : Nat) (t : Int) (w : World) (h : ¬ (0 ≤ t ∧ t < 6)) :
    Calls Tryz.prog 111 #[.slice (some ⟨g, o, none⟩) 6 6, .int .i64 t] w fun e w' => e = .returned (.tuple #[.pointer none, .iface 155 (.agg #[.int .i64 3])]) ∧ w' = w := by
  have d : decide (0 ≤ t ∧ t < 6) = false := by simpa using h
  go_enter Tryz.func111, Tryz.ntmps111
  go_wp2_with (go_at_call 108; refine (below_any _ _ _).mono ?_; rintro e w' ⟨rfl, rfl⟩; rw [d])
  go_ret2
  exact ⟨rfl, rfl⟩
theorem pickP_yes (g o t : Nat) (w : World) (h : t < 6) :
    Calls Tryz.prog 111 #[.slice (some ⟨g, o, none⟩) 6 6, .int .i64 t] w fun e w' => e = .returned (.tuple #[.pointer (some ⟨g, o + t * 2, none⟩), .nilIface]) ∧ w' = w := by
  have d : decide (0 ≤ (t : Int) ∧ (t : Int) < 6) = true := by simp; omega
  have tm : (t : Int) < 6 := by omega
  go_enter Tryz.func111, Tryz.ntmps111
  go_wp2_with (go_at_call 108; refine (below_any _ _ _).mono ?_; rintro e w' ⟨rfl, rfl⟩; rw [d])
  go_ret2
  exact ⟨rfl, rfl⟩
theorem pickL_no (g o : Nat) (t : Int) (w : World) (h : ¬ (0 ≤ t ∧ t < 6)) :
    Calls Tryz.prog 122 #[.slice (some ⟨g, o, none⟩) 6 6, .int .i64 t] w fun e w' => e = .returned (.tuple #[.pointer none, .iface 155 (.agg #[.int .i64 3])]) ∧ w' = w := by
  have d : decide (0 ≤ t ∧ t < 6) = false := by simpa using h
  go_enter Tryz.func122, Tryz.ntmps122
  go_wp2_with (go_at_call 108; refine (below_any _ _ _).mono ?_; rintro e w' ⟨rfl, rfl⟩; rw [d])
  go_ret2
  exact ⟨rfl, rfl⟩
theorem pickL_yes (g o t : Nat) (w : World) (h : t < 6) :
    Calls Tryz.prog 122 #[.slice (some ⟨g, o, none⟩) 6 6, .int .i64 t] w fun e w' => e = .returned (.tuple #[.pointer (some ⟨g, o + t * 2, none⟩), .nilIface]) ∧ w' = w := by
  have d : decide (0 ≤ (t : Int) ∧ (t : Int) < 6) = true := by simp; omega
  have tm : (t : Int) < 6 := by omega
  go_enter Tryz.func122, Tryz.ntmps122
  go_wp2_with (go_at_call 108; refine (below_any _ _ _).mono ?_; rintro e w' ⟨rfl, rfl⟩; rw [d])
  go_ret2
  exact ⟨rfl, rfl⟩

/-- The machine at x, with its parts named: g is the block of the spaces, s the current thread's space. -/
structure MH (w : World) (x : Nat) (ty : TypeId) (K : RK) (cs : Array Value) (ln : Nat → List Nat) (vt : Value) (rv : Nat → Value) (g c s n : Nat) : Prop where
  m : MAt w x ty cs (K.clock, K.fr) K.threads K.sp.toNat K.passes K.leaves ln vt rv (.slice (some ⟨g, 0, none⟩) K.sp.toNat c)
  l : Lined K.threads K.last ln
  ok : K.Ok n
  h : K.home = s
  lt : s < K.sp.toNat

theorem MRep.open {w : World} {x : Nat} {ty : TypeId} {S : Nat → Prop} {K : RK} {n : Nat} (h : MRep w x ty S K) (ok : K.Ok n) : ∃ cs ln vt rv g c s, MH w x ty K cs ln vt rv g c s n ∧ ∀ k, S k ↔ MOwn x vt rv (.slice (some ⟨g, 0, none⟩) K.sp.toNat c) k := by
  obtain ⟨cs, ln, vt, rv, vs, hm, hl, hS⟩ := h
  obtain ⟨t, u, s, _, _, _, hh, hlt⟩ := home_nat ok
  obtain ⟨a, c, ev⟩ := hm.sp.slice
  have hlen : (spRows K.sp.toNat K.passes K.leaves).length = K.sp.toNat := by simp [spRows]
  rw [hlen] at ev
  subst ev
  obtain ⟨g, ea, _⟩ := hm.sp.is_some (by omega)
  subst ea
  exact ⟨cs, ln, vt, rv, g, c, s, ⟨hm, hl, ok, hh, hlt⟩, hS⟩
theorem MH.rep {w : World} {x : Nat} {ty : TypeId} {K : RK} {cs : Array Value} {ln : Nat → List Nat} {vt : Value} {rv : Nat → Value} {g c s n : Nat} (h : MH w x ty K cs ln vt rv g c s n) : MRep w x ty (MOwn x vt rv (.slice (some ⟨g, 0, none⟩) K.sp.toNat c)) K := ⟨cs, ln, vt, rv, _, h.m, h.l, fun _ => Iff.rfl⟩
theorem MH.below {w w' : World} {x : Nat} {ty : TypeId} {K : RK} {cs : Array Value} {ln : Nat → List Nat} {vt : Value} {rv : Nat → Value} {g c s n : Nat} (h : MH w x ty K cs ln vt rv g c s n) (hb : Below w.heap.size w w') : MH w' x ty K cs ln vt rv g c s n := ⟨h.m.below hb, h.l, h.ok, h.h, h.lt⟩

section
variable (x : Nat) (ty : TypeId) (K : RK) (cs : Array Value) (ln : Nat → List Nat) (vt : Value) (rv : Nat → Value) (g c s n : Nat) (w : World)

set_option maxRecDepth 100000 in
set_option maxHeartbeats 4000000 in
theorem home_any (h : MH w x ty K cs ln vt rv g c s n) :
    Calls Tryz.prog 110 #[.pointer (some ⟨x, 0, none⟩)] w fun e w' => e = .returned (.tuple #[.pointer (some ⟨g, s * 24, none⟩), .nilIface]) ∧ Below w.heap.size w w' := by
  have C := caller_any x ty _ K w h.rep h.ok.one
  obtain ⟨t, u, s', et, hu, hus, hh, hlt⟩ := home_nat h.ok
  have es : s' = s := by have := h.h; omega
  subst es
  rw [et] at C
  have hc6 := (h.m.cell 6).trans h.m.c6
  have hc1 := (h.m.cell 1).trans h.m.c1
  have htl := (List.getElem?_eq_some_iff.1 hu).1
  have lx := (Array.getElem?_eq_some_iff.1 h.m.blk).1
  have hth := h.m.th
  obtain ⟨a, c1, ev⟩ := hth.slice
  rw [List.length_map] at ev
  subst ev
  obtain ⟨g1, ea, hx⟩ := hth.is_some (by omega)
  clear hx
  subst ea
  have k0 := hth.thcell hu 0 (by omega)
  simp only [thRow, List.getElem?_cons_zero, Nat.add_zero] at k0
  rw [hus] at k0
  generalize K.threads.length = m at *
  generalize K.sp.toNat = m2 at *
  have ht' : (t : Int) < (m : Int) := by omega
  have hs' : (s' : Int) < (m2 : Int) := by omega
  have HC := hid C
  clear C h hth hu hus hh et
  go_enter Tryz.func110, Tryz.ntmps110
  go_wp2_with (go_at_call 82; refine HC.out.mono ?_; rintro e w2 ⟨rfl, rfl⟩)
  go_quiet (fail)
  go_wp2
  go_ret2
  exact ⟨rfl, below_drewN (Below.refl _ w2) _⟩

set_option maxRecDepth 100000 in
set_option maxHeartbeats 4000000 in
theorem slot_yes (h : MH w x ty K cs ln vt rv g c s n) (k : Nat) (hk : k < 6) :
    Calls Tryz.prog 87 #[.pointer (some ⟨x, 0, none⟩), .int .i64 k] w fun e w' => e = .returned (.tuple #[.pointer (some ⟨g, s * 24 + k * 2, none⟩), .nilIface]) ∧ Below w.heap.size w w' := by
  have HC := hid (home_any x ty K cs ln vt rv g c s n w h)
  have lg : g < w.heap.size := h.m.sp.lt rfl
  clear h
  go_enter Tryz.func87, Tryz.ntmps87
  go_wp2_with (first
    | (go_at_call 110; refine HC.out.mono ?_; rintro e w2 ⟨rfl, B2⟩; replace B2 := hid B2)
    | (go_at_call 111; refine (pickP_yes g (s * 24) k _ hk).mono ?_; rintro e w3 ⟨rfl, rfl⟩))
  go_ret2
  exact ⟨rfl, B2.out⟩

set_option maxRecDepth 100000 in
set_option maxHeartbeats 4000000 in
theorem slot_no (h : MH w x ty K cs ln vt rv g c s n) (k : Int) (hk : ¬ (0 ≤ k ∧ k < 6)) :
    Calls Tryz.prog 87 #[.pointer (some ⟨x, 0, none⟩), .int .i64 k] w fun e w' => e = .returned (.tuple #[.pointer none, .iface 155 (.agg #[.int .i64 3])]) ∧ Below w.heap.size w w' := by
  have HC := hid (home_any x ty K cs ln vt rv g c s n w h)
  have HK := hid hk
  clear h hk
  go_enter Tryz.func87, Tryz.ntmps87
  go_wp2_with (first
    | (go_at_call 110; refine HC.out.mono ?_; rintro e w2 ⟨rfl, B2⟩; replace B2 := hid B2)
    | (go_at_call 111; refine (pickP_no g (s * 24) k _ HK.out).mono ?_; rintro e w3 ⟨rfl, rfl⟩))
  go_ret2
  exact ⟨rfl, B2.out⟩

set_option maxRecDepth 100000 in
set_option maxHeartbeats 4000000 in
theorem page_yes (h : MH w x ty K cs ln vt rv g c s n) (k : Nat) (hk : k < 6) :
    Calls Tryz.prog 107 #[.pointer (some ⟨x, 0, none⟩), .int .i64 k] w fun e w' => e = .returned (.tuple #[.pointer (some ⟨g, s * 24 + 12 + k * 2, none⟩), .nilIface]) ∧ Below w.heap.size w w' := by
  have HC := hid (home_any x ty K cs ln vt rv g c s n w h)
  clear h
  go_enter Tryz.func107, Tryz.ntmps107
  go_wp2_with (first
    | (go_at_call 110; refine HC.out.mono ?_; rintro e w2 ⟨rfl, B2⟩; replace B2 := hid B2)
    | (go_at_call 122; refine (pickL_yes g (s * 24 + 12) k _ hk).mono ?_; rintro e w3 ⟨rfl, rfl⟩))
  go_ret2
  exact ⟨rfl, B2.out⟩

set_option maxRecDepth 100000 in
set_option maxHeartbeats 4000000 in
theorem page_no (h : MH w x ty K cs ln vt rv g c s n) (k : Int) (hk : ¬ (0 ≤ k ∧ k < 6)) :
    Calls Tryz.prog 107 #[.pointer (some ⟨x, 0, none⟩), .int .i64 k] w fun e w' => e = .returned (.tuple #[.pointer none, .iface 155 (.agg #[.int .i64 3])]) ∧ Below w.heap.size w w' := by
  have HC := hid (home_any x ty K cs ln vt rv g c s n w h)
  have HK := hid hk
  clear h hk
  go_enter Tryz.func107, Tryz.ntmps107
  go_wp2_with (first
    | (go_at_call 110; refine HC.out.mono ?_; rintro e w2 ⟨rfl, B2⟩; replace B2 := hid B2)
    | (go_at_call 122; refine (pickL_no g (s * 24 + 12) k _ HK.out).mono ?_; rintro e w3 ⟨rfl, rfl⟩))
  go_ret2
  exact ⟨rfl, B2.out⟩
end
end Go.Proofs.YtgiiegppaleldaaGreatDoor

/- cell, Load, Store, leaf, Unmap of the machine. -/
namespace Go.Proofs.YtgiiegppaleldaaGreatDoor
open Go.RowKit

theorem bits_all {r a : Int} (h : r = 0 ∨ r = 1 ∨ r = 2 ∨ r = 3) (ha : a = 1 ∨ a = 2 ∨ a = 3) : (bits .and .i64 r a == a) = hasRt r a := by
  rcases h with rfl | rfl | rfl | rfl <;> rcases ha with rfl | rfl | rfl <;> rfl
theorem pb_rt {L : List (Int × Int × Int × Int)} {sp h : Int} (ho : ∀ (i : Nat) p, L[i]? = some p → okQ sp h p) (s n : Int) : pb (findQ L s n) = 0 ∨ pb (findQ L s n) = 1 ∨ pb (findQ L s n) = 2 ∨ pb (findQ L s n) = 3 := by
  rcases hf : findQ L s n with _ | p
  · exact .inl rfl
  · obtain ⟨⟨i, hi⟩, _⟩ := find_mem hf
    have := ho i p hi
    have h1 := this.2.2.2.2.2.2.1
    have h2 := this.2.2.2.2.2.2.2
    simp only [pb]
    omega

section
variable (x : Nat) (ty : TypeId) (K : RK) (cs : Array Value) (ln : Nat → List Nat) (vt : Value) (rv : Nat → Value) (g c s n : Nat) (w : World)

set_option maxRecDepth 100000 in
set_option maxHeartbeats 4000000 in
theorem cell_ok (h : MH w x ty K cs ln vt rv g c s n) (k e f : Nat) (hk : k < 6) (he : e < 4) (hf8 : f < 8) (rt : Int) (hrt : rt = 1 ∨ rt = 2) (hf : pa (findQ K.leaves s k) = f) (hr : hasRt (pb (findQ K.leaves s k)) rt = true) :
    Calls Tryz.prog 84 #[.pointer (some ⟨x, 0, none⟩), .int .i64 k, .int .i64 e, .int .i64 rt] w fun e' w' => e' = .returned (.tuple #[.pointer (some ⟨x, 7 + f * 4 + e, none⟩), .nilIface]) ∧ Below w.heap.size w w' := by
  have HP := hid (page_yes x ty K cs ln vt rv g c s n w h k hk)
  have HH := hid h
  have hb := bits_all (pb_rt h.ok.ol s k) (hrt.imp id .inl)
  have lg : g < w.heap.size := h.m.sp.lt rfl
  have hlt := h.lt
  rw [hr] at hb
  have d1 : decide (0 ≤ (e : Int) ∧ (e : Int) < 4) = true := by simp; omega
  have e4 : (e : Int) < 4 := by omega
  have f8 : (f : Int) < 8 := by omega
  have CC : Hid (∀ w2, Below w.heap.size w w2 → w2.cell? ⟨g, s * 24 + 12 + k * 2, none⟩ = some (.int .i64 f) ∧ w2.cell? ⟨g, s * 24 + 12 + k * 2 + 1, none⟩ = some (.int .i64 (pb (findQ K.leaves s k)))) := fun w2 B => by
    have := sp_cells (h.below B).m.sp hlt hk
    rw [hf] at this
    exact this.2.2
  generalize pb (findQ K.leaves s k) = B at *
  clear h hr hrt hf
  go_enter Tryz.func84, Tryz.ntmps84
  go_wp2_with (first
    | (go_at_call 107; refine HP.out.mono ?_; rintro e' w2 ⟨rfl, B2⟩; have cc := CC.out w2 B2; have c1 := cc.1; have c2 := cc.2; clear cc; have lg2 : g < w2.heap.size := Nat.lt_of_lt_of_le lg B2.size; replace B2 := hid B2)
    | (go_at_call 108; refine (below_any _ _ _).mono ?_; rintro e' w3 ⟨rfl, rfl⟩; rw [d1])
    | (go_at_call 109; refine (coreHolds_any _ _ _).mono ?_; rintro e' w3 ⟨rfl, rfl⟩; rw [hb]))
  go_quiet (fail)
  go_wp2
  go_ret2
  exact ⟨rfl, below_drewN B2.out _⟩

set_option maxRecDepth 100000 in
set_option maxHeartbeats 4000000 in
theorem cell_fault (h : MH w x ty K cs ln vt rv g c s n) (k e : Nat) (hk : k < 6) (he : e < 4) (rt : Int) (hrt : rt = 1 ∨ rt = 2) (hr : hasRt (pb (findQ K.leaves s k)) rt = false) :
    Calls Tryz.prog 84 #[.pointer (some ⟨x, 0, none⟩), .int .i64 k, .int .i64 e, .int .i64 rt] w fun e' w' => e' = .returned (.tuple #[.pointer none, .iface 155 (.agg #[.int .i64 7])]) ∧ Below w.heap.size w w' := by
  have HP := hid (page_yes x ty K cs ln vt rv g c s n w h k hk)
  have hb := bits_all (pb_rt h.ok.ol s k) (hrt.imp id .inl)
  have lg : g < w.heap.size := h.m.sp.lt rfl
  have hlt := h.lt
  rw [hr] at hb
  have d1 : decide (0 ≤ (e : Int) ∧ (e : Int) < 4) = true := by simp; omega
  have CC : Hid (∀ w2, Below w.heap.size w w2 → w2.cell? ⟨g, s * 24 + 12 + k * 2 + 1, none⟩ = some (.int .i64 (pb (findQ K.leaves s k)))) := fun w2 B => (sp_cells (h.below B).m.sp hlt hk).2.2.2
  generalize pb (findQ K.leaves s k) = B at *
  clear h hr hrt
  go_enter Tryz.func84, Tryz.ntmps84
  go_wp2_with (first
    | (go_at_call 107; refine HP.out.mono ?_; rintro e' w2 ⟨rfl, B2⟩; have c2 := CC.out w2 B2; have lg2 : g < w2.heap.size := Nat.lt_of_lt_of_le lg B2.size; replace B2 := hid B2)
    | (go_at_call 108; refine (below_any _ _ _).mono ?_; rintro e' w3 ⟨rfl, rfl⟩; rw [d1])
    | (go_at_call 109; refine (coreHolds_any _ _ _).mono ?_; rintro e' w3 ⟨rfl, rfl⟩; rw [hb]))
  go_ret2
  exact ⟨rfl, B2.out⟩

set_option maxRecDepth 100000 in
set_option maxHeartbeats 4000000 in
theorem cell_cell (h : MH w x ty K cs ln vt rv g c s n) (k : Nat) (e : Int) (hk : k < 6) (he : ¬ (0 ≤ e ∧ e < 4)) (rt : Int) :
    Calls Tryz.prog 84 #[.pointer (some ⟨x, 0, none⟩), .int .i64 k, .int .i64 e, .int .i64 rt] w fun e' w' => e' = .returned (.tuple #[.pointer none, .iface 155 (.agg #[.int .i64 3])]) ∧ Below w.heap.size w w' := by
  have HP := hid (page_yes x ty K cs ln vt rv g c s n w h k hk)
  have d1 : decide (0 ≤ e ∧ e < 4) = false := by simpa using he
  clear h he
  go_enter Tryz.func84, Tryz.ntmps84
  go_wp2_with (first
    | (go_at_call 107; refine HP.out.mono ?_; rintro e' w2 ⟨rfl, B2⟩; replace B2 := hid B2)
    | (go_at_call 108; refine (below_any _ _ _).mono ?_; rintro e' w3 ⟨rfl, rfl⟩; rw [d1]))
  go_ret2
  exact ⟨rfl, B2.out⟩

set_option maxRecDepth 100000 in
set_option maxHeartbeats 4000000 in
theorem cell_page (h : MH w x ty K cs ln vt rv g c s n) (k e : Int) (hk : ¬ (0 ≤ k ∧ k < 6)) (rt : Int) :
    Calls Tryz.prog 84 #[.pointer (some ⟨x, 0, none⟩), .int .i64 k, .int .i64 e, .int .i64 rt] w fun e' w' => e' = .returned (.tuple #[.pointer none, .iface 155 (.agg #[.int .i64 3])]) ∧ Below w.heap.size w w' := by
  have HP := hid (page_no x ty K cs ln vt rv g c s n w h k hk)
  have hne : ∀ w, (binOp .neq 100 (.iface 155 (.agg #[.int .i64 3])) .nilIface).run Tryz.prog w = .ok (.bool true) w := fun w => rfl
  clear h hk
  go_enter Tryz.func84, Tryz.ntmps84
  go_wp2_with (go_at_call 107; refine HP.out.mono ?_; rintro e' w2 ⟨rfl, B2⟩; replace B2 := hid B2)
  go_ret2
  exact ⟨rfl, B2.out⟩

/-- cell, against the document's touch. -/
theorem cell_any (h : MH w x ty K cs ln vt rv g c s n) (pg ce rt : Int) (hrt : rt = 1 ∨ rt = 2) :
    Calls Tryz.prog 84 #[.pointer (some ⟨x, 0, none⟩), .int .i64 pg, .int .i64 ce, .int .i64 rt] w fun e' w' => Below w.heap.size w w' ∧ ((∃ f e : Nat, f < 8 ∧ e < 4 ∧ ce = e ∧ K.touch pg ce rt = ((f : Int), 0) ∧ e' = .returned (.tuple #[.pointer (some ⟨x, 7 + f * 4 + e, none⟩), .nilIface])) ∨ (∃ cd, cd ≠ 0 ∧ K.touch pg ce rt = (0, cd) ∧ e' = .returned (.tuple #[.pointer none, .iface 155 (.agg #[.int .i64 cd])]))) := by
  by_cases hp : 0 ≤ pg ∧ pg < 6
  · obtain ⟨k, rfl⟩ := Int.eq_ofNat_of_zero_le hp.1
    have hk : k < 6 := by omega
    by_cases he : 0 ≤ ce ∧ ce < 4
    · obtain ⟨e, rfl⟩ := Int.eq_ofNat_of_zero_le he.1
      have he4 : e < 4 := by omega
      have i1 : inI (k : Int) 0 5 = true ∧ inI (e : Int) 0 3 = true := ⟨inI_true.2 (by omega), inI_true.2 (by omega)⟩
      have T : K.touch k e rt = match findQ K.leaves s k with | some p => if hasRt p.2.2.2 rt then (p.2.2.1, 0) else (0, 7) | none => (0, 7) := by unfold RK.touch; rw [if_pos i1, h.h]; rfl
      rcases hf : findQ K.leaves s k with _ | p
      · rw [hf] at T
        refine (cell_fault x ty K cs ln vt rv g c s n w h k e hk he4 rt hrt (by rw [hf]; rcases hrt with rfl | rfl <;> rfl)).mono ?_
        rintro e' w' ⟨rfl, B⟩
        exact ⟨B, .inr ⟨7, by omega, T, rfl⟩⟩
      · rw [hf] at T
        obtain ⟨⟨i, hi⟩, _⟩ := find_mem hf
        have ho := h.ok.ol i p hi
        obtain ⟨f, hfe⟩ := Int.eq_ofNat_of_zero_le ho.2.2.2.2.1
        have hf7 := ho.2.2.2.2.2.1
        cases hh : hasRt p.2.2.2 rt with
        | true =>
          simp only [hh, if_true] at T
          refine (cell_ok x ty K cs ln vt rv g c s n w h k e f hk he4 (by omega) rt hrt (by rw [hf]; exact hfe) (by rw [hf]; exact hh)).mono ?_
          rintro e' w' ⟨rfl, B⟩
          exact ⟨B, .inl ⟨f, e, by omega, he4, rfl, by rw [T, hfe], rfl⟩⟩
        | false =>
          simp only [hh] at T
          refine (cell_fault x ty K cs ln vt rv g c s n w h k e hk he4 rt hrt (by rw [hf]; exact hh)).mono ?_
          rintro e' w' ⟨rfl, B⟩
          exact ⟨B, .inr ⟨7, by omega, T, rfl⟩⟩
    · have T : K.touch k ce rt = (0, 3) := by
        unfold RK.touch; rw [if_neg]; intro hc; have := inI_true.1 hc.2; omega
      refine (cell_cell x ty K cs ln vt rv g c s n w h k ce hk he rt).mono ?_
      rintro e' w' ⟨rfl, B⟩
      exact ⟨B, .inr ⟨3, by omega, T, rfl⟩⟩
  · have T : K.touch pg ce rt = (0, 3) := by
      unfold RK.touch; rw [if_neg]; intro hc; have := inI_true.1 hc.1; omega
    refine (cell_page x ty K cs ln vt rv g c s n w h pg ce hp rt).mono ?_
    rintro e' w' ⟨rfl, B⟩
    exact ⟨B, .inr ⟨3, by omega, T, rfl⟩⟩

set_option maxRecDepth 100000 in
set_option maxHeartbeats 4000000 in
theorem mLoad_any (h : MH w x ty K cs ln vt rv g c s n) (pg ce : Int) :
    Calls Tryz.prog 57 #[.pointer (some ⟨x, 0, none⟩), .int .i64 pg, .int .i64 ce] w fun e w' => Below w.heap.size w w' ∧ ((∃ v, K.load pg ce = (v, 0) ∧ e = .returned (.tuple #[.int .i64 v, .nilIface])) ∨ (∃ cd st, K.load pg ce = (0, cd) ∧ e = .returned (.tuple #[.int .i64 0, .iface 153 (.agg #[.string st, .iface 155 (.agg #[.int .i64 cd])])]))) := by
  have HC := hid (cell_any x ty K cs ln vt rv g c s n w h pg ce 1 (.inl rfl))
  have HH := hid h
  clear h
  go_enter Tryz.func57, Tryz.ntmps57
  go_wp2_with fail
  refine HC.out.mono ?_
  rintro e w2 ⟨B2, ⟨f, e2, hf8, he4, rfl, T, rfl⟩ | ⟨cd, hcd, T, rfl⟩⟩
  · have hc : w2.cell? ⟨x, 7 + f * 4 + e2, none⟩ = some (.int .i64 (K.fr (f * 4 + e2))) := by
      have := ((HH.out.below B2).m.cell (7 + (f * 4 + e2))).trans ((HH.out.below B2).m.fr (f * 4 + e2) (by omega))
      rw [← Nat.add_assoc] at this
      exact this
    have E := hid (show K.load pg e2 = (K.fr (f * 4 + e2), 0) by simp [RK.load, T])
    have HB := hid B2
    clear T B2
    go_wp2
    go_ret2
    exact ⟨HB.out, .inl ⟨_, E.out, rfl⟩⟩
  · have E := hid (show K.load pg ce = (0, cd) by simp [RK.load, T, hcd])
    have HB := hid B2
    clear T B2 hcd
    go_wp2
    go_ret2
    exact ⟨HB.out, .inr ⟨cd, _, E.out, rfl⟩⟩

set_option maxRecDepth 100000 in
set_option maxHeartbeats 4000000 in
theorem mStore_any (h : MH w x ty K cs ln vt rv g c s n) (pg ce v : Int) :
    Calls Tryz.prog 59 #[.pointer (some ⟨x, 0, none⟩), .int .i64 pg, .int .i64 ce, .int .i64 v] w fun e w' => (((K.touch pg ce 2).2 = 0 ∧ e = .returned .nilIface) ∨ (∃ st, e = .returned (.iface 153 (.agg #[.string st, .iface 155 (.agg #[.int .i64 (K.touch pg ce 2).2])])) ∧ Below w.heap.size w w')) ∧ MRep w' x ty (MOwn x vt rv (.slice (some ⟨g, 0, none⟩) K.sp.toNat c)) (K.stored pg ce v) ∧ Fr (MOwn x vt rv (.slice (some ⟨g, 0, none⟩) K.sp.toNat c)) w w' := by
  have HC := hid (cell_any x ty K cs ln vt rv g c s n w h pg ce 2 (.inr rfl))
  have HH := hid h
  clear h
  go_enter Tryz.func59, Tryz.ntmps59
  go_wp2_with fail
  refine HC.out.mono ?_
  rintro e w2 ⟨B2, ⟨f, e2, hf8, he4, rfl, T, rfl⟩ | ⟨cd, hcd, T, rfl⟩⟩
  · have hm := (HH.out.below B2).m
    have hc : w2.cell? ⟨x, 7 + f * 4 + e2, none⟩ = some (.int .i64 (K.fr (f * 4 + e2))) := by
      have := (hm.cell (7 + (f * 4 + e2))).trans (hm.fr (f * 4 + e2) (by omega))
      rw [← Nat.add_assoc] at this
      exact this
    have hf := frozen_of_row w2 x (7 + f * 4 + e2) cs ty hm.blk
    have ST := hm.setFr (f * 4 + e2) (by omega) v
    rw [← Nat.add_assoc] at ST
    have E1 := hid (show (K.touch pg e2 2).2 = 0 by rw [T])
    have E2 := hid (show K.stored pg e2 v = { K with fr := frSet K.fr (f * 4 + e2) v } by simp [RK.stored, T])
    have HB := hid (And.intro B2 ST)
    clear T B2 hm ST
    go_wp2
    go_ret
    refine ⟨.inl ⟨E1.out, rfl⟩, ?_, (Fr.of_below HB.out.1 _).trans (HB.out.2.2.mono (fun k _ e => .inl e))⟩
    rw [E2.out]
    exact ⟨_, ln, vt, rv, _, HB.out.2.1, HH.out.l, fun _ => Iff.rfl⟩
  · have E1 := hid (show (K.touch pg ce 2).2 = cd by rw [T])
    have E2 := hid (show K.stored pg ce v = K by simp [RK.stored, T, hcd])
    have HB := hid B2
    clear T B2 hcd
    go_wp2
    go_ret
    rw [E1.out, E2.out]
    exact ⟨.inr ⟨_, rfl, HB.out⟩, (HH.out.below HB.out).rep, Fr.of_below HB.out _⟩

set_option maxRecDepth 100000 in
set_option maxHeartbeats 4000000 in
theorem mLeaf_any (h : MH w x ty K cs ln vt rv g c s n) (pg : Int) :
    Calls Tryz.prog 85 #[.pointer (some ⟨x, 0, none⟩), .int .i64 pg] w fun e w' => Below w.heap.size w w' ∧ ((∃ (k : Nat) (p : Int × Int × Int × Int), k < 6 ∧ pg = k ∧ findQ K.leaves s k = some p ∧ e = .returned (.tuple #[.pointer (some ⟨g, s * 24 + 12 + k * 2, none⟩), .nilIface])) ∨ (∃ cd, K.unmap pg true = (cd, K) ∧ K.unmap pg false = (cd, K) ∧ cd ≠ 0 ∧ e = .returned (.tuple #[.pointer none, .iface 155 (.agg #[.int .i64 cd])]))) := by
  by_cases hp : 0 ≤ pg ∧ pg < 6
  · obtain ⟨k, rfl⟩ := Int.eq_ofNat_of_zero_le hp.1
    have hk : k < 6 := by omega
    have i1 : inI (k : Int) 0 5 = true := inI_true.2 (by omega)
    have HP := hid (page_yes x ty K cs ln vt rv g c s n w h k hk)
    have lg : g < w.heap.size := h.m.sp.lt rfl
    have hlt := h.lt
    have CC : Hid (∀ w2, Below w.heap.size w w2 → w2.cell? ⟨g, s * 24 + 12 + k * 2 + 1, none⟩ = some (.int .i64 (pb (findQ K.leaves s k)))) := fun w2 B => (sp_cells (h.below B).m.sp hlt hk).2.2.2
    rcases hf : findQ K.leaves s k with _ | p
    · have E : ∀ own, K.unmap k own = (8, K) := fun own => by unfold RK.unmap; rw [if_pos i1, h.h, hf]
      have HE := hid E
      rw [hf] at CC
      clear h hf E hp
      go_enter Tryz.func85, Tryz.ntmps85
      go_wp2_with (go_at_call 107; refine HP.out.mono ?_; rintro e' w2 ⟨rfl, B2⟩; have c2 : w2.cell? ⟨g, s * 24 + 12 + k * 2 + 1, none⟩ = some (.int .i64 0) := CC.out w2 B2; have lg2 : g < w2.heap.size := Nat.lt_of_lt_of_le lg B2.size; replace B2 := hid B2)
      go_ret2
      exact ⟨B2.out, .inr ⟨8, HE.out _, HE.out _, by omega, rfl⟩⟩
    · obtain ⟨⟨i, hi⟩, _⟩ := find_mem hf
      have h4 := h.ok.rl i p hi
      have hz : (p.2.2.2 == 0) = false := by simpa using h4
      rw [hf] at CC
      simp only [pb] at CC
      have HF := hid hf
      clear h hf hp hi h4
      go_enter Tryz.func85, Tryz.ntmps85
      go_wp2_with (go_at_call 107; refine HP.out.mono ?_; rintro e' w2 ⟨rfl, B2⟩; have c2 := CC.out w2 B2; have lg2 : g < w2.heap.size := Nat.lt_of_lt_of_le lg B2.size; replace B2 := hid B2)
      go_ret2
      exact ⟨B2.out, .inl ⟨k, p, hk, rfl, HF.out, rfl⟩⟩
  · have E : ∀ own, K.unmap pg own = (3, K) := fun own => by
      unfold RK.unmap; rw [if_neg]; intro hc; have := inI_true.1 hc; omega
    have HE := hid E
    have HP := hid (page_no x ty K cs ln vt rv g c s n w h pg hp)
    clear h E hp
    go_enter Tryz.func85, Tryz.ntmps85
    go_wp2_with (go_at_call 107; refine HP.out.mono ?_; rintro e' w2 ⟨rfl, B2⟩; replace B2 := hid B2)
    go_ret2
    exact ⟨B2.out, .inr ⟨3, HE.out _, HE.out _, by omega, rfl⟩⟩

set_option maxRecDepth 100000 in
set_option maxHeartbeats 4000000 in
theorem mUnmap_any (h : MH w x ty K cs ln vt rv g c s n) (pg : Int) (own : Bool) :
    Calls Tryz.prog 60 #[.pointer (some ⟨x, 0, none⟩), .int .i64 pg, .bool own] w fun e w' => (((K.unmap pg own).1 = 0 ∧ e = .returned .nilIface) ∨ (∃ st, e = .returned (.iface 153 (.agg #[.string st, .iface 155 (.agg #[.int .i64 (K.unmap pg own).1])])) ∧ Below w.heap.size w w')) ∧ MRep w' x ty (MOwn x vt rv (.slice (some ⟨g, 0, none⟩) K.sp.toNat c)) (K.unmap pg own).2 ∧ Fr (MOwn x vt rv (.slice (some ⟨g, 0, none⟩) K.sp.toNat c)) w w' := by
  have HC := hid (mLeaf_any x ty K cs ln vt rv g c s n w h pg)
  have HH := hid h
  clear h
  go_enter Tryz.func60, Tryz.ntmps60
  go_wp2_with fail
  refine HC.out.mono ?_
  rintro e w2 ⟨B2, ⟨k, p, hk, rfl, hf, rfl⟩ | ⟨cd, T1, T2, hcd, rfl⟩⟩
  · have i1 : inI (k : Int) 0 5 = true := inI_true.2 (by omega)
    have hm := (HH.out.below B2).m
    cases own with
    | true =>
      have E := hid (show K.unmap k true = (0, { K with leaves := outQ K.leaves s k }) by unfold RK.unmap; rw [if_pos i1, HH.out.h, hf]; rfl)
      have KC := sp_cells hm.sp HH.out.lt hk
      have kp := KC.2.2.1
      have kq := KC.2.2.2
      have fp := hm.sp.fro (s * 24 + 12 + k * 2)
      have fq := hm.sp.fro (s * 24 + 12 + k * 2 + 1)
      have RW := rows_updL (Q := K.leaves) (Q' := outQ K.leaves s k) (o := none) K.sp.toNat K.passes HH.out.lt hk (fun s' i => outQ_find K.leaves s k s' i)
      have ST := hm.setSp HH.out.lt (by omega) RW
      simp only [← Nat.add_assoc] at ST
      have HB := hid (And.intro B2 ST)
      have lg2 : g < w2.heap.size := hm.sp.lt rfl
      clear B2 hm ST RW KC hf
      go_wp2
      go_ret
      rw [E.out]
      refine ⟨.inl ⟨rfl, rfl⟩, ⟨cs, ln, vt, rv, _, HB.out.2.1, HH.out.l, fun _ => Iff.rfl⟩, (Fr.of_below HB.out.1 _).trans (HB.out.2.2.mono (fun k _ e => .inr (.inr (.inr (by rw [e]; rfl)))))⟩
    | false =>
      have E := hid (show K.unmap k false = (0, K) by unfold RK.unmap; rw [if_pos i1, HH.out.h, hf]; rfl)
      have HB := hid B2
      clear B2 hm hf
      go_wp2
      go_ret
      rw [E.out]
      exact ⟨.inl ⟨rfl, rfl⟩, (HH.out.below HB.out).rep, Fr.of_below HB.out _⟩
  · have E := hid (show K.unmap pg own = (cd, K) by cases own <;> assumption)
    have HB := hid B2
    clear B2 T1 T2 hcd
    go_wp2
    go_ret
    rw [E.out]
    exact ⟨.inr ⟨_, rfl, HB.out⟩, (HH.out.below HB.out).rep, Fr.of_below HB.out _⟩
end
end Go.Proofs.YtgiiegppaleldaaGreatDoor

/- Drop, derive, Derive of the machine. -/
namespace Go.Proofs.YtgiiegppaleldaaGreatDoor
open Go.RowKit

section
variable (x : Nat) (ty : TypeId) (K : RK) (cs : Array Value) (ln : Nat → List Nat) (vt : Value) (rv : Nat → Value) (g c s n : Nat) (w : World)

set_option maxRecDepth 100000 in
set_option maxHeartbeats 4000000 in
theorem mDrop_any (h : MH w x ty K cs ln vt rv g c s n) (a : Int) :
    Calls Tryz.prog 65 #[.pointer (some ⟨x, 0, none⟩), .int .i64 a] w fun e w' => (((K.drop a).1 = 0 ∧ e = .returned .nilIface) ∨ (∃ st, e = .returned (.iface 153 (.agg #[.string st, .iface 155 (.agg #[.int .i64 (K.drop a).1])])) ∧ Below w.heap.size w w')) ∧ MRep w' x ty (MOwn x vt rv (.slice (some ⟨g, 0, none⟩) K.sp.toNat c)) (K.drop a).2 ∧ Fr (MOwn x vt rv (.slice (some ⟨g, 0, none⟩) K.sp.toNat c)) w w' := by
  have HH := hid h
  by_cases hp : 0 ≤ a ∧ a < 6
  · obtain ⟨k, rfl⟩ := Int.eq_ofNat_of_zero_le hp.1
    have hk : k < 6 := by omega
    have i1 : inI (k : Int) 0 5 = true := inI_true.2 (by omega)
    have HC := hid (slot_yes x ty K cs ln vt rv g c s n w h k hk)
    clear h hp
    go_enter Tryz.func65, Tryz.ntmps65
    go_wp2_with fail
    refine HC.out.mono ?_
    rintro e w2 ⟨rfl, B2⟩
    have hm := (HH.out.below B2).m
    have lg2 : g < w2.heap.size := hm.sp.lt rfl
    have KC := sp_cells hm.sp HH.out.lt hk
    have kp := KC.1
    have kq := KC.2.1
    clear KC
    rcases hf : findQ K.passes s k with _ | p
    · have E := hid (show K.drop k = (4, K) by unfold RK.drop; rw [if_pos i1, HH.out.h, hf])
      rw [hf] at kp kq
      simp only [pa, pb] at kp kq
      have HB := hid B2
      clear B2 hm hf
      go_wp2
      go_ret
      rw [E.out]
      exact ⟨.inr ⟨_, rfl, HB.out⟩, (HH.out.below HB.out).rep, Fr.of_below HB.out _⟩
    · have E := hid (show K.drop k = (0, { K with passes := outQ K.passes s k }) by unfold RK.drop; rw [if_pos i1, HH.out.h, hf])
      obtain ⟨⟨i, hi⟩, _⟩ := find_mem hf
      have h4 := HH.out.ok.rq i p hi
      have hz : (p.2.2.2 == 0) = false := by simpa using h4
      rw [hf] at kp kq
      simp only [pa, pb] at kp kq
      have fp := hm.sp.fro (s * 24 + k * 2)
      have fq := hm.sp.fro (s * 24 + k * 2 + 1)
      have RW := rows_updP (Q := K.passes) (Q' := outQ K.passes s k) (o := none) K.sp.toNat K.leaves HH.out.lt hk (fun s' i => outQ_find K.passes s k s' i)
      have ST := hm.setSp HH.out.lt (by omega) RW
      simp only [← Nat.add_assoc] at ST
      have HB := hid (And.intro B2 ST)
      clear B2 hm ST RW hf hi h4
      go_wp2
      go_ret
      rw [E.out]
      refine ⟨.inl ⟨rfl, rfl⟩, ⟨cs, ln, vt, rv, _, HB.out.2.1, HH.out.l, fun _ => Iff.rfl⟩, (Fr.of_below HB.out.1 _).trans (HB.out.2.2.mono (fun k _ e => .inr (.inr (.inr (by rw [e]; rfl)))))⟩
  · have E := hid (show K.drop a = (3, K) by unfold RK.drop; rw [if_neg]; intro hc; have := inI_true.1 hc; omega)
    have HC := hid (slot_no x ty K cs ln vt rv g c s n w h a hp)
    clear h hp
    go_enter Tryz.func65, Tryz.ntmps65
    go_wp2_with (go_at_call 87; refine HC.out.mono ?_; rintro e w2 ⟨rfl, B2⟩; replace B2 := hid B2)
    go_ret
    rw [E.out]
    exact ⟨.inr ⟨_, rfl, B2.out⟩, (HH.out.below B2.out).rep, Fr.of_below B2.out _⟩

set_option maxRecDepth 100000 in
set_option maxHeartbeats 4000000 in
theorem derive_any (h : MH w x ty K cs ln vt rv g c s n) (a b r : Int) :
    Calls Tryz.prog 86 #[.pointer (some ⟨x, 0, none⟩), .int .i64 a, .int .i64 b, .int .i64 r] w fun e w' => (((K.derive a b r).1 = 0 ∧ e = .returned .nilIface) ∨ (e = .returned (.iface 155 (.agg #[.int .i64 (K.derive a b r).1])) ∧ Below w.heap.size w w')) ∧ MRep w' x ty (MOwn x vt rv (.slice (some ⟨g, 0, none⟩) K.sp.toNat c)) (K.derive a b r).2 ∧ Fr (MOwn x vt rv (.slice (some ⟨g, 0, none⟩) K.sp.toNat c)) w w' := by
  have HH := hid h
  by_cases hp : 0 ≤ a ∧ a < 6
  · obtain ⟨k, rfl⟩ := Int.eq_ofNat_of_zero_le hp.1
    have hk : k < 6 := by omega
    have i1 : inI (k : Int) 0 5 = true := inI_true.2 (by omega)
    have HC := hid (slot_yes x ty K cs ln vt rv g c s n w h k hk)
    by_cases hq : 0 ≤ b ∧ b < 6
    · obtain ⟨j, rfl⟩ := Int.eq_ofNat_of_zero_le hq.1
      have hj : j < 6 := by omega
      have i2 : inI (j : Int) 0 5 = true := inI_true.2 (by omega)
      have HD : Hid (∀ w2, Below w.heap.size w w2 → Calls Tryz.prog 87 #[.pointer (some ⟨x, 0, none⟩), .int .i64 j] w2 fun e w' => e = .returned (.tuple #[.pointer (some ⟨g, s * 24 + j * 2, none⟩), .nilIface]) ∧ Below w2.heap.size w2 w') := fun w2 B => slot_yes x ty K cs ln vt rv g c s n w2 (HH.out.below B) j hj
      clear h hp hq
      by_cases hr : 1 ≤ r ∧ r ≤ 3
      · have i3 : inI r 1 3 = true := inI_true.2 hr
        have d3 : decide (1 ≤ r ∧ r ≤ 3) = true := by simpa using hr
        have hb := bits_all (pb_rt HH.out.ok.oq s k) (show r = 1 ∨ r = 2 ∨ r = 3 by omega)
        clear hr
        go_enter Tryz.func86, Tryz.ntmps86
        go_wp2_with (first
          | (go_at_call 94; refine (between_any _ _ _ _).mono ?_; rintro e w3 ⟨rfl, rfl⟩; rw [d3])
          | fail)
        refine HC.out.mono ?_
        rintro e w2 ⟨rfl, B2⟩
        have HB2 := hid B2
        clear B2
        go_wp2_with (first
          | (go_at_call 94; refine (between_any _ _ _ _).mono ?_; rintro e w3 ⟨rfl, rfl⟩; rw [d3])
          | fail)
        refine (HD.out w2 HB2.out).mono ?_
        rintro e w3 ⟨rfl, B3⟩
        have B2 : Below w.heap.size w w3 := HB2.out.trans (B3.mono HB2.out.size)
        have hm := (HH.out.below B2).m
        have lg2 : g < w3.heap.size := hm.sp.lt rfl
        have KC := sp_cells hm.sp HH.out.lt hk
        have kp := KC.1
        have kq := KC.2.1
        have KD := sp_cells hm.sp HH.out.lt hj
        have dp := KD.1
        have dq := KD.2.1
        clear KC KD B3
        cases hh : hasRt (pb (findQ K.passes s k)) r with
        | false =>
          have E := hid (show K.derive k j r = (4, K) by
            unfold RK.derive; rw [if_pos ⟨i1, i2, i3⟩, HH.out.h]
            rcases hf : findQ K.passes s k with _ | p
            · rfl
            · rw [hf] at hh; simp only [pb] at hh; simp [hh])
          rw [hh] at hb
          have HB := hid B2
          generalize pb (findQ K.passes s k) = B at *
          clear B2 hm hh
          go_wp2_with (first
            | (go_at_call 94; refine (between_any _ _ _ _).mono ?_; rintro e w4 ⟨rfl, rfl⟩; rw [d3])
            | (go_at_call 109; refine (coreHolds_any _ _ _).mono ?_; rintro e w4 ⟨rfl, rfl⟩; rw [hb]))
          go_ret
          rw [E.out]
          exact ⟨.inr ⟨rfl, HB.out⟩, (HH.out.below HB.out).rep, Fr.of_below HB.out _⟩
        | true =>
          obtain ⟨p, hf⟩ : ∃ p, findQ K.passes s k = some p := by
            rcases hf : findQ K.passes s k with _ | p
            · rw [hf] at hh
              have : (0 : Int) = r := by simpa [hasRt, pb] using hh
              have := inI_true.1 i3
              omega
            · exact ⟨p, rfl⟩
          have E := hid (show K.derive k j r = (0, { K with passes := putQ K.passes s j p.2.2.1 r }) by
            unfold RK.derive; rw [if_pos ⟨i1, i2, i3⟩, HH.out.h, hf]
            rw [hf] at hh; simp only [pb] at hh; simp [hh])
          rw [hh] at hb
          rw [hf] at kp kq hb
          simp only [pa, pb] at kp kq hb
          have fp := hm.sp.fro (s * 24 + j * 2)
          have fq := hm.sp.fro (s * 24 + j * 2 + 1)
          have RW := rows_updP (Q := K.passes) (Q' := putQ K.passes s j p.2.2.1 r) (o := some (s, j, p.2.2.1, r)) K.sp.toNat K.leaves HH.out.lt hj (fun s' i => putQ_find K.passes s j p.2.2.1 r s' i)
          simp only [pa, pb] at RW
          have ST := hm.setSp HH.out.lt (by omega) RW
          simp only [← Nat.add_assoc] at ST
          have HB := hid (And.intro B2 ST)
          generalize pb (findQ K.passes s j) = B at *
          generalize pa (findQ K.passes s j) = A at *
          clear B2 hm hh hf ST RW
          go_wp2_with (first
            | (go_at_call 94; refine (between_any _ _ _ _).mono ?_; rintro e w4 ⟨rfl, rfl⟩; rw [d3])
            | (go_at_call 109; refine (coreHolds_any _ _ _).mono ?_; rintro e w4 ⟨rfl, rfl⟩; rw [hb]))
          go_ret
          rw [E.out]
          refine ⟨.inl ⟨rfl, rfl⟩, ⟨cs, ln, vt, rv, _, HB.out.2.1, HH.out.l, fun _ => Iff.rfl⟩, (Fr.of_below HB.out.1 _).trans (HB.out.2.2.mono (fun k _ e => .inr (.inr (.inr (by rw [e]; rfl)))))⟩
      · have E := hid (show K.derive k j r = (3, K) by unfold RK.derive; rw [if_neg]; intro hc; have := inI_true.1 hc.2.2; omega)
        have d3 : decide (1 ≤ r ∧ r ≤ 3) = false := by simpa using hr
        clear hr
        go_enter Tryz.func86, Tryz.ntmps86
        go_wp2_with fail
        refine HC.out.mono ?_
        rintro e w2 ⟨rfl, B2⟩
        have HB2 := hid B2
        clear B2
        go_wp2_with fail
        refine (HD.out w2 HB2.out).mono ?_
        rintro e w3 ⟨rfl, B3⟩
        have B2 := hid (HB2.out.trans (B3.mono HB2.out.size))
        clear B3
        go_wp2_with (go_at_call 94; refine (between_any _ _ _ _).mono ?_; rintro e w4 ⟨rfl, rfl⟩; rw [d3])
        go_ret
        rw [E.out]
        exact ⟨.inr ⟨rfl, B2.out⟩, (HH.out.below B2.out).rep, Fr.of_below B2.out _⟩
    · have E := hid (show K.derive k b r = (3, K) by unfold RK.derive; rw [if_neg]; intro hc; have := inI_true.1 hc.2.1; omega)
      have HQ := hid hq
      clear h hp hq
      go_enter Tryz.func86, Tryz.ntmps86
      go_wp2_with fail
      refine HC.out.mono ?_
      rintro e w2 ⟨rfl, B2⟩
      have HB2 := hid B2
      clear B2
      go_wp2_with fail
      refine (slot_no x ty K cs ln vt rv g c s n w2 (HH.out.below HB2.out) b HQ.out).mono ?_
      rintro e w3 ⟨rfl, B3⟩
      have B2 := hid (HB2.out.trans (B3.mono HB2.out.size))
      clear B3
      go_wp2
      go_ret
      rw [E.out]
      exact ⟨.inr ⟨rfl, B2.out⟩, (HH.out.below B2.out).rep, Fr.of_below B2.out _⟩
  · have E := hid (show K.derive a b r = (3, K) by unfold RK.derive; rw [if_neg]; intro hc; have := inI_true.1 hc.1; omega)
    have HC := hid (slot_no x ty K cs ln vt rv g c s n w h a hp)
    clear h hp
    go_enter Tryz.func86, Tryz.ntmps86
    go_wp2_with (go_at_call 87; refine HC.out.mono ?_; rintro e w2 ⟨rfl, B2⟩; replace B2 := hid B2)
    go_ret
    rw [E.out]
    exact ⟨.inr ⟨rfl, B2.out⟩, (HH.out.below B2.out).rep, Fr.of_below B2.out _⟩

set_option maxRecDepth 100000 in
set_option maxHeartbeats 4000000 in
theorem mDerive_any (h : MH w x ty K cs ln vt rv g c s n) (a b r : Int) :
    Calls Tryz.prog 64 #[.pointer (some ⟨x, 0, none⟩), .int .i64 a, .int .i64 b, .int .i64 r] w fun e w' => (((K.derive a b r).1 = 0 ∧ e = .returned .nilIface) ∨ (∃ st, e = .returned (.iface 153 (.agg #[.string st, .iface 155 (.agg #[.int .i64 (K.derive a b r).1])])) ∧ Below w.heap.size w w')) ∧ MRep w' x ty (MOwn x vt rv (.slice (some ⟨g, 0, none⟩) K.sp.toNat c)) (K.derive a b r).2 ∧ Fr (MOwn x vt rv (.slice (some ⟨g, 0, none⟩) K.sp.toNat c)) w w' := by
  have HC := hid (derive_any x ty K cs ln vt rv g c s n w h a b r)
  clear h
  generalize (K.derive a b r).1 = cd at *
  generalize (K.derive a b r).2 = K2 at *
  go_enter Tryz.func64, Tryz.ntmps64
  go_wp2_with fail
  refine HC.out.mono ?_
  rintro e w2 ⟨⟨hz, rfl⟩ | ⟨rfl, BB⟩, H2⟩
  · have HB := hid (And.intro hz H2)
    clear H2 hz
    go_wp2
    go_ret
    exact ⟨.inl ⟨HB.out.1, rfl⟩, HB.out.2⟩
  · have HB := hid (And.intro BB H2)
    clear H2 BB
    go_wp2
    go_ret
    exact ⟨.inr ⟨_, rfl, HB.out.1⟩, HB.out.2⟩
end
end Go.Proofs.YtgiiegppaleldaaGreatDoor

/- Load, Store, Unmap, Derive, Drop of the face. -/
namespace Go.Proofs.YtgiiegppaleldaaGreatDoor
open Go.RowKit

set_option maxRecDepth 100000 in
set_option maxHeartbeats 4000000 in
theorem fLoad_any (x : Nat) (S : Nat → Prop) (K : RK) (n : Nat) (pg ce : Int) (w : World) (hg : Gl w) (h : MRep w x 105 S K) (ok : K.Ok n) :
    Calls Tryz.prog 25 #[.pointer (some ⟨x, 0, none⟩), .int .i64 pg, .int .i64 ce] w fun e w' => e = .returned (.tuple #[.int .i64 (K.load pg ce).1, .int .i64 (K.load pg ce).2]) ∧ Below w.heap.size w w' := by
  obtain ⟨cs, ln, vt, rv, g, c, s, hm, hS⟩ := h.open ok
  have HC := hid (mLoad_any x 105 K cs ln vt rv g c s n w hm pg ce)
  have HG := hid hg
  clear hm hS h ok hg
  go_enter Tryz.func25, Tryz.ntmps25
  go_wp2_with fail
  refine HC.out.mono ?_
  rintro e w2 ⟨B2, ⟨v, E, rfl⟩ | ⟨cd, st, E, rfl⟩⟩
  · have HB := hid B2
    have HE := hid E
    clear E B2
    go_wp2_with (go_at_call 40; refine (number_nil _).mono ?_; rintro e w3 ⟨rfl, H3⟩; replace H3 := hid H3)
    go_ret2
    exact ⟨by rw [HE.out]; rfl, HB.out.trans (H3.out.mono HB.out.size)⟩
  · have HB := hid B2
    have HE := hid E
    clear E B2
    go_wp2_with (go_at_call 40; refine (number_met1 st cd _ (HG.out.below HB.out)).mono ?_; rintro e w3 ⟨rfl, H3⟩; replace H3 := hid H3)
    go_ret2
    exact ⟨by rw [HE.out]; rfl, HB.out.trans (H3.out.mono HB.out.size)⟩

set_option maxRecDepth 100000 in
set_option maxHeartbeats 4000000 in
theorem fStore_any (x : Nat) (S : Nat → Prop) (K : RK) (n : Nat) (pg ce v : Int) (w : World) (hg : Gl w) (h : MRep w x 105 S K) (ok : K.Ok n) :
    Calls Tryz.prog 27 #[.pointer (some ⟨x, 0, none⟩), .int .i64 pg, .int .i64 ce, .int .i64 v] w fun e w' => e = .returned (.int .i64 (K.touch pg ce 2).2) ∧ (∃ S', MRep w' x 105 S' (K.stored pg ce v) ∧ ∀ b, S' b → S b ∨ w.heap.size ≤ b) ∧ Fr S w w' := by
  obtain ⟨cs, ln, vt, rv, g, c, s, hm, hS⟩ := h.open ok
  have HC := hid (mStore_any x 105 K cs ln vt rv g c s n w hm pg ce v)
  have HG := hid (And.intro hg hS)
  clear hm hS h ok hg
  generalize (K.touch pg ce 2).2 = cd at *
  generalize K.stored pg ce v = K2 at *
  go_enter Tryz.func27, Tryz.ntmps27
  go_wp2_with fail
  refine HC.out.mono ?_
  rintro e w2 ⟨⟨rfl, rfl⟩ | ⟨st, rfl, BB⟩, R2, F2⟩
  · have HB := hid (And.intro R2 F2)
    clear R2 F2
    go_wp2_with (go_at_call 40; refine (number_nil _).mono ?_; rintro e w3 ⟨rfl, H3⟩; replace H3 := hid H3)
    go_ret
    exact ⟨rfl, ⟨_, HB.out.1.kept (Fr.of_below H3.out (fun _ => False)) (fun _ _ h => h), fun b hb => .inl ((HG.out.2 b).2 hb)⟩, (HB.out.2.mono (fun k _ e => (HG.out.2 k).2 e)).trans (Fr.of_below H3.out S)⟩
  · have G2 : Gl w2 := HG.out.1.below BB
    have HB := hid (And.intro R2 F2)
    have HG2 := hid G2
    clear R2 F2 G2 BB
    go_wp2_with (go_at_call 40; refine (number_met1 st cd _ HG2.out).mono ?_; rintro e w3 ⟨rfl, H3⟩; replace H3 := hid H3)
    go_ret
    exact ⟨rfl, ⟨_, HB.out.1.kept (Fr.of_below H3.out (fun _ => False)) (fun _ _ h => h), fun b hb => .inl ((HG.out.2 b).2 hb)⟩, (HB.out.2.mono (fun k _ e => (HG.out.2 k).2 e)).trans (Fr.of_below H3.out S)⟩

set_option maxRecDepth 100000 in
set_option maxHeartbeats 4000000 in
theorem fUnmap_any (x : Nat) (S : Nat → Prop) (K : RK) (n : Nat) (pg : Int) (own : Bool) (w : World) (hg : Gl w) (h : MRep w x 105 S K) (ok : K.Ok n) :
    Calls Tryz.prog 29 #[.pointer (some ⟨x, 0, none⟩), .int .i64 pg, .bool own] w fun e w' => e = .returned (.int .i64 (K.unmap pg own).1) ∧ (∃ S', MRep w' x 105 S' ((K.unmap pg own).2) ∧ ∀ b, S' b → S b ∨ w.heap.size ≤ b) ∧ Fr S w w' := by
  obtain ⟨cs, ln, vt, rv, g, c, s, hm, hS⟩ := h.open ok
  have HC := hid (mUnmap_any x 105 K cs ln vt rv g c s n w hm pg own)
  have HG := hid (And.intro hg hS)
  clear hm hS h ok hg
  generalize (K.unmap pg own).1 = cd at *
  generalize (K.unmap pg own).2 = K2 at *
  go_enter Tryz.func29, Tryz.ntmps29
  go_wp2_with fail
  refine HC.out.mono ?_
  rintro e w2 ⟨⟨rfl, rfl⟩ | ⟨st, rfl, BB⟩, R2, F2⟩
  · have HB := hid (And.intro R2 F2)
    clear R2 F2
    go_wp2_with (go_at_call 40; refine (number_nil _).mono ?_; rintro e w3 ⟨rfl, H3⟩; replace H3 := hid H3)
    go_ret
    exact ⟨rfl, ⟨_, HB.out.1.kept (Fr.of_below H3.out (fun _ => False)) (fun _ _ h => h), fun b hb => .inl ((HG.out.2 b).2 hb)⟩, (HB.out.2.mono (fun k _ e => (HG.out.2 k).2 e)).trans (Fr.of_below H3.out S)⟩
  · have G2 : Gl w2 := HG.out.1.below BB
    have HB := hid (And.intro R2 F2)
    have HG2 := hid G2
    clear R2 F2 G2 BB
    go_wp2_with (go_at_call 40; refine (number_met1 st cd _ HG2.out).mono ?_; rintro e w3 ⟨rfl, H3⟩; replace H3 := hid H3)
    go_ret
    exact ⟨rfl, ⟨_, HB.out.1.kept (Fr.of_below H3.out (fun _ => False)) (fun _ _ h => h), fun b hb => .inl ((HG.out.2 b).2 hb)⟩, (HB.out.2.mono (fun k _ e => (HG.out.2 k).2 e)).trans (Fr.of_below H3.out S)⟩

set_option maxRecDepth 100000 in
set_option maxHeartbeats 4000000 in
theorem fDerive_any (x : Nat) (S : Nat → Prop) (K : RK) (n : Nat) (a b r : Int) (w : World) (hg : Gl w) (h : MRep w x 105 S K) (ok : K.Ok n) :
    Calls Tryz.prog 31 #[.pointer (some ⟨x, 0, none⟩), .int .i64 a, .int .i64 b, .int .i64 r] w fun e w' => e = .returned (.int .i64 (K.derive a b r).1) ∧ (∃ S', MRep w' x 105 S' ((K.derive a b r).2) ∧ ∀ b, S' b → S b ∨ w.heap.size ≤ b) ∧ Fr S w w' := by
  obtain ⟨cs, ln, vt, rv, g, c, s, hm, hS⟩ := h.open ok
  have HC := hid (mDerive_any x 105 K cs ln vt rv g c s n w hm a b r)
  have HG := hid (And.intro hg hS)
  clear hm hS h ok hg
  generalize (K.derive a b r).1 = cd at *
  generalize (K.derive a b r).2 = K2 at *
  go_enter Tryz.func31, Tryz.ntmps31
  go_wp2_with fail
  refine HC.out.mono ?_
  rintro e w2 ⟨⟨rfl, rfl⟩ | ⟨st, rfl, BB⟩, R2, F2⟩
  · have HB := hid (And.intro R2 F2)
    clear R2 F2
    go_wp2_with (go_at_call 40; refine (number_nil _).mono ?_; rintro e w3 ⟨rfl, H3⟩; replace H3 := hid H3)
    go_ret
    exact ⟨rfl, ⟨_, HB.out.1.kept (Fr.of_below H3.out (fun _ => False)) (fun _ _ h => h), fun b hb => .inl ((HG.out.2 b).2 hb)⟩, (HB.out.2.mono (fun k _ e => (HG.out.2 k).2 e)).trans (Fr.of_below H3.out S)⟩
  · have G2 : Gl w2 := HG.out.1.below BB
    have HB := hid (And.intro R2 F2)
    have HG2 := hid G2
    clear R2 F2 G2 BB
    go_wp2_with (go_at_call 40; refine (number_met1 st cd _ HG2.out).mono ?_; rintro e w3 ⟨rfl, H3⟩; replace H3 := hid H3)
    go_ret
    exact ⟨rfl, ⟨_, HB.out.1.kept (Fr.of_below H3.out (fun _ => False)) (fun _ _ h => h), fun b hb => .inl ((HG.out.2 b).2 hb)⟩, (HB.out.2.mono (fun k _ e => (HG.out.2 k).2 e)).trans (Fr.of_below H3.out S)⟩

set_option maxRecDepth 100000 in
set_option maxHeartbeats 4000000 in
theorem fDrop_any (x : Nat) (S : Nat → Prop) (K : RK) (n : Nat) (a : Int) (w : World) (hg : Gl w) (h : MRep w x 105 S K) (ok : K.Ok n) :
    Calls Tryz.prog 33 #[.pointer (some ⟨x, 0, none⟩), .int .i64 a] w fun e w' => e = .returned (.int .i64 (K.drop a).1) ∧ (∃ S', MRep w' x 105 S' ((K.drop a).2) ∧ ∀ b, S' b → S b ∨ w.heap.size ≤ b) ∧ Fr S w w' := by
  obtain ⟨cs, ln, vt, rv, g, c, s, hm, hS⟩ := h.open ok
  have HC := hid (mDrop_any x 105 K cs ln vt rv g c s n w hm a)
  have HG := hid (And.intro hg hS)
  clear hm hS h ok hg
  generalize (K.drop a).1 = cd at *
  generalize (K.drop a).2 = K2 at *
  go_enter Tryz.func33, Tryz.ntmps33
  go_wp2_with fail
  refine HC.out.mono ?_
  rintro e w2 ⟨⟨rfl, rfl⟩ | ⟨st, rfl, BB⟩, R2, F2⟩
  · have HB := hid (And.intro R2 F2)
    clear R2 F2
    go_wp2_with (go_at_call 40; refine (number_nil _).mono ?_; rintro e w3 ⟨rfl, H3⟩; replace H3 := hid H3)
    go_ret
    exact ⟨rfl, ⟨_, HB.out.1.kept (Fr.of_below H3.out (fun _ => False)) (fun _ _ h => h), fun b hb => .inl ((HG.out.2 b).2 hb)⟩, (HB.out.2.mono (fun k _ e => (HG.out.2 k).2 e)).trans (Fr.of_below H3.out S)⟩
  · have G2 : Gl w2 := HG.out.1.below BB
    have HB := hid (And.intro R2 F2)
    have HG2 := hid G2
    clear R2 F2 G2 BB
    go_wp2_with (go_at_call 40; refine (number_met1 st cd _ HG2.out).mono ?_; rintro e w3 ⟨rfl, H3⟩; replace H3 := hid H3)
    go_ret
    exact ⟨rfl, ⟨_, HB.out.1.kept (Fr.of_below H3.out (fun _ => False)) (fun _ _ h => h), fun b hb => .inl ((HG.out.2 b).2 hb)⟩, (HB.out.2.mono (fun k _ e => (HG.out.2 k).2 e)).trans (Fr.of_below H3.out S)⟩
end Go.Proofs.YtgiiegppaleldaaGreatDoor
