import Derived.Test.YtgiiegppaleldaaGreatDoorTT
import Derived.Deep.RegionHeld3
import Derived.Deep.DeepCutAuto
/- told. -/
namespace Go.Proofs.YtgiiegppaleldaaGreatDoor
open Go.RowKit

theorem Sl.toInl {w : World} {e : TypeId} {size : Nat} {v : Value} {rows : List (List Value)} (h : Sl w e size v rows) (h1 : ∀ r ∈ rows, ∀ u ∈ r, u.oneCell' = true) : Inl w size v rows := by
  rcases h.own.2 with ⟨e1, e2⟩ | ⟨g, cap, cur, e1, _, hg, h3, h4, h5, h6⟩
  · have : rows = [] := List.eq_nil_of_length_eq_zero e2
    subst this
    exact ⟨by simp, by simp, none, 0, e1, by simp, .inl rfl⟩
  · subst e1
    have := h.inl h1 rows.length cap (Nat.le_refl _)
    rwa [List.take_of_length_le (Nat.le_refl _)] at this

theorem opBox {w : World} {p : Nat} {c0 c1 c2 c3 c4 c5 c6 c7 c8 c9 c10 c11 c12 c13 a0 a1 a2 a3 : Value} {t : TypeId} (h : w.heap[p]? = some (.cells #[c0, c1, c2, c3, c4, c5, c6, c7, c8, c9, c10, c11, c12, c13, a0, a1, a2, a3] t (0, 0))) :
    w.cell? ⟨p, 0, none⟩ = some c0 ∧ w.cell? ⟨p, 2, none⟩ = some c2 := ⟨(cell_of_row w p 0 _ _ _ h).trans rfl, (cell_of_row w p 2 _ _ _ h).trans rfl⟩
theorem prBox {w : World} {p : Nat} {a0 a1 : Value} {t : TypeId} (h : w.heap[p]? = some (.cells #[a0, a1] t (0, 0))) : w.cell? ⟨p, 0, none⟩ = some a0 ∧ w.cell? ⟨p, 1, none⟩ = some a1 := ⟨(cell_of_row w p 0 _ _ _ h).trans rfl, (cell_of_row w p 1 _ _ _ h).trans rfl⟩

set_option maxRecDepth 100000 in
set_option maxHeartbeats 8000000 in
theorem told_look (b : Nat) (ka kb kcc kd2 kn : Int) (ky : Bool) (m0 m2 m3 m4 m5 m6 : Int) (aw : Option Addr) (nw cw : Nat) (sp : Int) (aT aP aL : Option Addr) (mT mP mL cT cP cL : Nat) (x y : Nat) (q0 q1 q2 q3 q4 : Int) (ps l1 l2 l3 : Value) (rows : List (List Value)) (w : World)
    (HX : ∀ w1, Below w.heap.size w w1 → Calls Tryz.prog 66 #[.pointer (some ⟨x, 0, none⟩), .int .i64 kb] w1 fun e w' => ∃ v, e = .returned (.tuple #[.agg #[.int .i64 q0, .int .i64 q1, .int .i64 q2, v, .int .i64 q3], .int .i64 q4]) ∧ Sl w' 2 1 v [] ∧ Below w1.heap.size w1 w' ∧ ∀ b, v.ownBlock = some b → w1.heap.size ≤ b)
    (HY : ∀ w1, Below w.heap.size w w1 → Calls Tryz.prog 67 #[.pointer (some ⟨y, 0, none⟩), .int .i64 kb] w1 fun e w' => e = .returned (.tuple #[.agg #[.int .i64 q0, .int .i64 q1, .int .i64 q2, .slice none 0 0, .int .i64 q3], .int .i64 q4]) ∧ Below w1.heap.size w1 w')
    (hb : w.heap[b]? = some (.cells #[ps, l1, l2, l3] 34 (0, 0))) (hs : Sl w 83 5 l1 rows) (hr : rows.length ≤ 1000000000000) (hne : l1.ownBlock ≠ some b) :
    Calls Tryz.prog 35 #[.pointer (some ⟨b, 0, none⟩), .agg #[.int .i64 11, .int .i64 ka, .int .i64 kb, .int .i64 kcc, .int .i64 kd2, .int .i64 kn, .bool ky, .int .i64 m0, .slice aw nw cw, .int .i64 m2, .int .i64 m3, .int .i64 m4, .int .i64 m5, .int .i64 m6, .int .i64 sp, .slice aT mT cT, .slice aP mP cP, .slice aL mL cL], .agg #[.pointer (some ⟨x, 0, none⟩), .pointer (some ⟨y, 0, none⟩)]] w fun e w' => e = .returned (.bool true) ∧ ∃ v u v1 v2 v3 w0, Below w.heap.size w w0 ∧ (∀ k, v.ownBlock = some k → w.heap.size ≤ k ∧ k < w0.heap.size) ∧ Booked 83 2 mk1 b 1 #[ps, l1, l2, l3] l1 v rows w0 u v1 v2 v3 w' := by
  have lb := (Array.getElem?_eq_some_iff.1 hb).1
  have HW := hid (And.intro hb (And.intro hs (And.intro hr hne)))
  have HC := hid (And.intro HX HY)
  clear HX HY hb hs hr hne
  go_enter Tryz.func35, Tryz.ntmps35
  go_wp2_with fail
  have B1 : Below w.heap.size w ((w.alloc (.cells #[.int .i64 11, .int .i64 ka, .int .i64 kb, .int .i64 kcc, .int .i64 kd2, .int .i64 kn, .bool ky, .int .i64 m0, .slice aw nw cw, .int .i64 m2, .int .i64 m3, .int .i64 m4, .int .i64 m5, .int .i64 m6, .int .i64 sp, .slice aT mT cT, .slice aP mP cP, .slice aL mL cL] 46)).alloc (.cells #[.pointer (some ⟨x, 0, none⟩), .pointer (some ⟨y, 0, none⟩)] 51)) := ((Below.refl _ w).alloc (Nat.le_refl _) _).alloc (by simp) _
  refine (HC.out.1 _ B1).mono ?_
  rintro e w2 ⟨v, rfl, sv, B2, V2⟩
  obtain ⟨av, cv, ev⟩ := sv.slice
  simp only [List.length_nil] at ev
  subst ev
  have y1 : ((w.alloc (.cells #[.int .i64 11, .int .i64 ka, .int .i64 kb, .int .i64 kcc, .int .i64 kd2, .int .i64 kn, .bool ky, .int .i64 m0, .slice aw nw cw, .int .i64 m2, .int .i64 m3, .int .i64 m4, .int .i64 m5, .int .i64 m6, .int .i64 sp, .slice aT mT cT, .slice aP mP cP, .slice aL mL cL] 46)).alloc (.cells #[.pointer (some ⟨x, 0, none⟩), .pointer (some ⟨y, 0, none⟩)] 51)).heap.size = w.heap.size + 2 := by simp
  rw [y1] at B2 V2
  have p2 : w2.heap[w.heap.size]? = some (.cells #[.int .i64 11, .int .i64 ka, .int .i64 kb, .int .i64 kcc, .int .i64 kd2, .int .i64 kn, .bool ky, .int .i64 m0, .slice aw nw cw, .int .i64 m2, .int .i64 m3, .int .i64 m4, .int .i64 m5, .int .i64 m6, .int .i64 sp, .slice aT mT cT, .slice aP mP cP, .slice aL mL cL] 46) := (B2.block _ (by omega)).trans (heap_alloc2_old w _ _)
  have r2 : w2.heap[w.heap.size + 1]? = some (.cells #[.pointer (some ⟨x, 0, none⟩), .pointer (some ⟨y, 0, none⟩)] 51) := (B2.block _ (by omega)).trans (heap_alloc2_new w _ _)
  have z2 := B2.size
  rw [y1] at z2
  have B02 : Below w.heap.size w w2 := B1.trans (B2.mono (by omega))
  have H2 := hid (And.intro sv (And.intro B02 (And.intro p2 (And.intro r2 V2))))
  have lt2 : w.heap.size + 1 < w2.heap.size := by omega
  have c2p := (opBox ((Below.heap_alloc w2 (.cells #[.int .i64 q0, .int .i64 q1, .int .i64 q2, .slice av 0 cv, .int .i64 q3] 137) _ (by omega)).trans p2)).2
  have c2r := (prBox ((Below.heap_alloc w2 (.cells #[.int .i64 q0, .int .i64 q1, .int .i64 q2, .slice av 0 cv, .int .i64 q3] 137) _ (by omega)).trans r2)).2
  clear sv B2 V2 p2 r2 B02
  go_wp2_with fail
  have B2a : Below w.heap.size w (w2.alloc (.cells #[.int .i64 q0, .int .i64 q1, .int .i64 q2, .slice av 0 cv, .int .i64 q3] 137)) := H2.out.2.1.alloc (by omega) _
  refine (HC.out.2 _ B2a).mono ?_
  rintro e w3 ⟨rfl, B3⟩
  have y2a : (w2.alloc (.cells #[.int .i64 q0, .int .i64 q1, .int .i64 q2, .slice av 0 cv, .int .i64 q3] 137)).heap.size = w2.heap.size + 1 := by simp
  rw [y2a] at B3
  have z3 := B3.size
  rw [y2a] at z3
  have hA : w3.heap[w2.heap.size]? = some (.cells #[.int .i64 q0, .int .i64 q1, .int .i64 q2, .slice av 0 cv, .int .i64 q3] 137 (0, 0)) := (B3.block _ (by omega)).trans (heap_alloc_new w2 _)
  have hA4 : (w3.alloc (.cells #[.int .i64 q0, .int .i64 q1, .int .i64 q2, .slice none 0 0, .int .i64 q3] 137)).heap[w2.heap.size]? = some (.cells #[.int .i64 q0, .int .i64 q1, .int .i64 q2, .slice av 0 cv, .int .i64 q3] 137 (0, 0)) := (Below.heap_alloc w3 _ _ (by omega)).trans hA
  have B04 : Below w.heap.size w (w3.alloc (.cells #[.int .i64 q0, .int .i64 q1, .int .i64 q2, .slice none 0 0, .int .i64 q3] 137)) := (B2a.trans (B3.mono (by omega))).alloc (by omega) _
  obtain ⟨⟨a40, a41, a42, a43, a44⟩, _⟩ := cells5 hA4
  have sv4 : Sl (w3.alloc (.cells #[.int .i64 q0, .int .i64 q1, .int .i64 q2, .slice none 0 0, .int .i64 q3] 137)) 2 1 (.slice av 0 cv) [] := ((H2.out.1.alloc _).kept (Fr.of_below (by rw [y2a]; exact B3) (fun _ => False)) (fun _ _ h => h)).alloc _
  have SM := sameThread_any q0 q1 q2 q3 (.slice av 0 cv) (.slice none 0 0) [] (w3.alloc (.cells #[.int .i64 q0, .int .i64 q1, .int .i64 q2, .slice none 0 0, .int .i64 q3] 137)) (sv4.toInl (by simp)) ((Sl.nil _ 2 1).toInl (by simp))
  have H4 := hid (And.intro B04 (And.intro hA4 (And.intro sv4 SM)))
  have hq : (q4 == q4) = true := by simp
  clear B2a B3 hA hA4 B04 sv4 SM
  go_wp2_with (go_at_call 68; refine H4.out.2.2.2.mono ?_; rintro e w5 ⟨rfl, B5⟩; have y4 : (w3.alloc (.cells #[.int .i64 q0, .int .i64 q1, .int .i64 q2, .slice none 0 0, .int .i64 q3] 137)).heap.size = w3.heap.size + 1 := (by simp); rw [y4] at B5; have z5 := B5.size; rw [y4] at z5; have hA5 := (B5.block w2.heap.size (by omega)).trans H4.out.2.1; have a53 := (cell_of_row w5 w2.heap.size 3 _ _ _ hA5).trans (show _ = some (Value.slice av 0 cv) from rfl); have B05 : Below w.heap.size w w5 := H4.out.1.trans (B5.mono (by omega)); have sv5 := H4.out.2.2.1.kept (Fr.of_below (by rw [y4]; exact B5) (fun _ => False)) (fun _ _ h => h); have H5 := hid (And.intro B05 sv5); clear B5 hA5 B05 sv5)
  have hb5 := (H5.out.1.block b lb).trans HW.out.1
  have nvb : Value.ownBlock (.slice av 0 cv) ≠ some b := fun e => by have := H2.out.2.2.2.2 b e; omega
  have nvl : ∀ k, Value.ownBlock (.slice av 0 cv) = some k → l1.ownBlock ≠ some k := fun k e h => by have := H2.out.2.2.2.2 k e; have := HW.out.2.1.lt h; omega
  have NB := number_any b ps l1 l2 l3 (.slice av 0 cv) rows 0 [] w5.drew hb5 (HW.out.2.1.below H5.out.1).drew HW.out.2.2.1 (by simpa using H5.out.2.drew.own) (by omega) HW.out.2.2.2 nvb nvl
  have HN := hid NB
  clear NB hb5 nvb nvl
  have lb5 : b < w5.heap.size := Nat.lt_of_lt_of_le lb H5.out.1.size
  go_region_with (go_at_call 69; refine HN.out.mono ?_; rintro e w6 ⟨rfl, u, v1, v2, v3, H6⟩; replace H6 := hid H6)
  all_goals
    go_wp2
    go_ret
    obtain ⟨h1, h2, h3, h4, h5, h6, h7, h8, h9⟩ := H6.out
    refine ⟨rfl, .slice av 0 cv, u, v1, v2, v3, w5, H5.out.1, fun k hk => ⟨?_, H5.out.2.lt hk⟩, ⟨h1, h2, h3, h4, h5, h6, ⟨h7.os, h7.tape, h7.output, h7.size, h7.block⟩, h8, h9⟩⟩
    have := H2.out.2.2.2.2 k hk
    omega
end Go.Proofs.YtgiiegppaleldaaGreatDoor

/- told, of a space. -/
namespace Go.Proofs.YtgiiegppaleldaaGreatDoor
open Go.RowKit

theorem q_one' (T : List (Int × Int × Int × Int)) : ∀ r ∈ T.map qRow', ∀ u ∈ r, u.oneCell' = true := by
  intro r hr u hu
  obtain ⟨p, _, rfl⟩ := List.mem_map.1 hr
  simp [qRow'] at hu
  rcases hu with rfl | rfl | rfl | rfl <;> rfl
theorem qq (T : List (Int × Int × Int × Int)) : T.map qRow = T.map qRow' := rfl

set_option maxRecDepth 100000 in
set_option maxHeartbeats 8000000 in
theorem told_space (b : Nat) (ka kb kcc kd2 kn : Int) (ky : Bool) (m0 m2 m3 m4 m5 m6 : Int) (aw : Option Addr) (nw cw : Nat) (sp : Int) (aT aP aL : Option Addr) (mT mP mL cT cP cL : Nat) (x y : Nat) (q4 : Int) (R1 R2 : List (Int × Int × Int × Int)) (r1 : R1.length ≤ 6) (r2 : R2.length ≤ 6) (ps l1 l2 l3 : Value) (prow lrow : List (List Value)) (w : World)
    (HX : ∀ w1, Below w.heap.size w w1 → Calls Tryz.prog 70 #[.pointer (some ⟨x, 0, none⟩), .int .i64 kb] w1 fun e w' => ∃ v u, e = .returned (.tuple #[.agg #[v, u], .int .i64 q4]) ∧ Sl w' 67 4 v (R1.map qRow) ∧ Sl w' 69 4 u (R2.map qRow) ∧ Below w1.heap.size w1 w' ∧ (∀ b, v.ownBlock = some b ∨ u.ownBlock = some b → w1.heap.size ≤ b) ∧ ∀ b, v.ownBlock = some b → u.ownBlock ≠ some b)
    (HY : ∀ w1, Below w.heap.size w w1 → Calls Tryz.prog 71 #[.pointer (some ⟨y, 0, none⟩), .int .i64 kb] w1 fun e w' => ∃ v u, e = .returned (.tuple #[.agg #[v, u], .int .i64 q4]) ∧ Sl w' 67 4 v (R1.map qRow) ∧ Sl w' 69 4 u (R2.map qRow) ∧ Below w1.heap.size w1 w')
    (hb : w.heap[b]? = some (.cells #[ps, l1, l2, l3] 34 (0, 0))) (hs : Sl w 85 5 l2 prow) (hr : prow.length ≤ 1000000000000) (hsl : Sl w 87 5 l3 lrow) (hrl : lrow.length ≤ 1000000000000) (hne : l2.ownBlock ≠ some b) (hne3 : l3.ownBlock ≠ some b) (hne23 : ∀ k, l2.ownBlock = some k → l3.ownBlock ≠ some k) :
    Calls Tryz.prog 35 #[.pointer (some ⟨b, 0, none⟩), .agg #[.int .i64 12, .int .i64 ka, .int .i64 kb, .int .i64 kcc, .int .i64 kd2, .int .i64 kn, .bool ky, .int .i64 m0, .slice aw nw cw, .int .i64 m2, .int .i64 m3, .int .i64 m4, .int .i64 m5, .int .i64 m6, .int .i64 sp, .slice aT mT cT, .slice aP mP cP, .slice aL mL cL], .agg #[.pointer (some ⟨x, 0, none⟩), .pointer (some ⟨y, 0, none⟩)]] w fun e w' => e = .returned (.bool true) ∧ ∃ v u w0, Below w.heap.size w w0 ∧ (∀ k, v.ownBlock = some k ∨ u.ownBlock = some k → w.heap.size ≤ k ∧ k < w0.heap.size) ∧ (∀ k, v.ownBlock = some k → u.ownBlock ≠ some k) ∧
      ∃ wm pas' v1 v2 v3 lea' u1 u2 u3, Booked 85 67 mk4 b 2 #[ps, l1, l2, l3] l2 v prow w0 pas' v1 v2 v3 wm ∧ Booked 87 69 mk4 b 3 #[ps, l1, pas', l3] l3 u lrow wm lea' u1 u2 u3 w' := by
  have lb := (Array.getElem?_eq_some_iff.1 hb).1
  have HW := hid (And.intro hb (And.intro hs (And.intro hr (And.intro hsl (And.intro hrl (And.intro hne (And.intro hne3 hne23)))))))
  have HC := hid (And.intro HX HY)
  clear HX HY hb hs hr hsl hrl hne hne3 hne23
  go_enter Tryz.func35, Tryz.ntmps35
  go_wp2_with fail
  have B1 : Below w.heap.size w ((w.alloc (.cells #[.int .i64 12, .int .i64 ka, .int .i64 kb, .int .i64 kcc, .int .i64 kd2, .int .i64 kn, .bool ky, .int .i64 m0, .slice aw nw cw, .int .i64 m2, .int .i64 m3, .int .i64 m4, .int .i64 m5, .int .i64 m6, .int .i64 sp, .slice aT mT cT, .slice aP mP cP, .slice aL mL cL] 46)).alloc (.cells #[.pointer (some ⟨x, 0, none⟩), .pointer (some ⟨y, 0, none⟩)] 51)) := ((Below.refl _ w).alloc (Nat.le_refl _) _).alloc (by simp) _
  refine (HC.out.1 _ B1).mono ?_
  rintro e w2 ⟨v, u, rfl, sv, su, B2, V2, V2n⟩
  obtain ⟨av, nv, cv, rfl⟩ : ∃ a n c, v = .slice a n c := by obtain ⟨a, c, h⟩ := sv.slice; exact ⟨_, _, _, h⟩
  obtain ⟨au, nu, cu, rfl⟩ : ∃ a n c, u = .slice a n c := by obtain ⟨a, c, h⟩ := su.slice; exact ⟨_, _, _, h⟩
  have y1 : ((w.alloc (.cells #[.int .i64 12, .int .i64 ka, .int .i64 kb, .int .i64 kcc, .int .i64 kd2, .int .i64 kn, .bool ky, .int .i64 m0, .slice aw nw cw, .int .i64 m2, .int .i64 m3, .int .i64 m4, .int .i64 m5, .int .i64 m6, .int .i64 sp, .slice aT mT cT, .slice aP mP cP, .slice aL mL cL] 46)).alloc (.cells #[.pointer (some ⟨x, 0, none⟩), .pointer (some ⟨y, 0, none⟩)] 51)).heap.size = w.heap.size + 2 := by simp
  rw [y1] at B2 V2
  have p2 : w2.heap[w.heap.size]? = some (.cells #[.int .i64 12, .int .i64 ka, .int .i64 kb, .int .i64 kcc, .int .i64 kd2, .int .i64 kn, .bool ky, .int .i64 m0, .slice aw nw cw, .int .i64 m2, .int .i64 m3, .int .i64 m4, .int .i64 m5, .int .i64 m6, .int .i64 sp, .slice aT mT cT, .slice aP mP cP, .slice aL mL cL] 46) := (B2.block _ (by omega)).trans (heap_alloc2_old w _ _)
  have r2' : w2.heap[w.heap.size + 1]? = some (.cells #[.pointer (some ⟨x, 0, none⟩), .pointer (some ⟨y, 0, none⟩)] 51) := (B2.block _ (by omega)).trans (heap_alloc2_new w _ _)
  have z2 := B2.size
  rw [y1] at z2
  have B02 : Below w.heap.size w w2 := B1.trans (B2.mono (by omega))
  have H2 := hid (And.intro sv (And.intro su (And.intro B02 (And.intro V2 V2n))))
  have lt2 : w.heap.size + 1 < w2.heap.size := by omega
  have c2p := (opBox ((Below.heap_alloc w2 (.cells #[.slice av nv cv, .slice au nu cu] 143) _ (by omega)).trans p2)).2
  have c2r := (prBox ((Below.heap_alloc w2 (.cells #[.slice av nv cv, .slice au nu cu] 143) _ (by omega)).trans r2')).2
  clear sv su B2 V2 V2n p2 r2' B02
  go_wp2_with fail
  have B2a : Below w.heap.size w (w2.alloc (.cells #[.slice av nv cv, .slice au nu cu] 143)) := H2.out.2.2.1.alloc (by omega) _
  refine (HC.out.2 _ B2a).mono ?_
  rintro e w3 ⟨v', u', rfl, sv', su', B3⟩
  obtain ⟨av', nv', cv', rfl⟩ : ∃ a n c, v' = .slice a n c := by obtain ⟨a, c, h⟩ := sv'.slice; exact ⟨_, _, _, h⟩
  obtain ⟨au', nu', cu', rfl⟩ : ∃ a n c, u' = .slice a n c := by obtain ⟨a, c, h⟩ := su'.slice; exact ⟨_, _, _, h⟩
  have y2a : (w2.alloc (.cells #[.slice av nv cv, .slice au nu cu] 143)).heap.size = w2.heap.size + 1 := by simp
  rw [y2a] at B3
  have z3 := B3.size
  rw [y2a] at z3
  have hA : w3.heap[w2.heap.size]? = some (.cells #[.slice av nv cv, .slice au nu cu] 143 (0, 0)) := (B3.block _ (by omega)).trans (heap_alloc_new w2 _)
  have hA4 : (w3.alloc (.cells #[.slice av' nv' cv', .slice au' nu' cu'] 143)).heap[w2.heap.size]? = some (.cells #[.slice av nv cv, .slice au nu cu] 143 (0, 0)) := (Below.heap_alloc w3 _ _ (by omega)).trans hA
  have B04 : Below w.heap.size w (w3.alloc (.cells #[.slice av' nv' cv', .slice au' nu' cu'] 143)) := (B2a.trans (B3.mono (by omega))).alloc (by omega) _
  obtain ⟨a40, a41⟩ := prBox hA4
  have F24 : Fr (fun _ => False) w2 (w3.alloc (.cells #[.slice av' nv' cv', .slice au' nu' cu'] 143)) := (((Fr.refl (fun _ => False) w2).alloc _).trans (Fr.of_below (by rw [y2a]; exact B3) _)).alloc _
  have sv4 := H2.out.1.kept F24 (fun _ _ h => h)
  have su4 := H2.out.2.1.kept F24 (fun _ _ h => h)
  have SM := sameSpace_any (.slice av nv cv) (.slice au nu cu) (.slice av' nv' cv') (.slice au' nu' cu') R1 R2 (w3.alloc (.cells #[.slice av' nv' cv', .slice au' nu' cu'] 143)) (by rw [qq] at sv4; exact sv4.toInl (q_one' R1)) (by rw [qq] at sv'; exact (sv'.alloc _).toInl (q_one' R1)) (by rw [qq] at su4; exact su4.toInl (q_one' R2)) (by rw [qq] at su'; exact (su'.alloc _).toInl (q_one' R2))
  have H4 := hid (And.intro B04 (And.intro hA4 (And.intro sv4 (And.intro su4 SM))))
  have hq : (q4 == q4) = true := by simp
  clear B2a B3 hA hA4 B04 sv4 su4 SM sv' su' F24
  go_wp2_with (go_at_call 72; refine H4.out.2.2.2.2.mono ?_; rintro e w5 ⟨rfl, B5⟩; have y4 : (w3.alloc (.cells #[.slice av' nv' cv', .slice au' nu' cu'] 143)).heap.size = w3.heap.size + 1 := (by simp); rw [y4] at B5; have z5 := B5.size; rw [y4] at z5; have hA5 := (B5.block w2.heap.size (by omega)).trans H4.out.2.1; have a53 := (prBox hA5).1; have a54 := (prBox hA5).2; have B05 : Below w.heap.size w w5 := H4.out.1.trans (B5.mono (by omega)); have sv5 := H4.out.2.2.1.kept (Fr.of_below (by rw [y4]; exact B5) (fun _ => False)) (fun _ _ h => h); have su5 := H4.out.2.2.2.1.kept (Fr.of_below (by rw [y4]; exact B5) (fun _ => False)) (fun _ _ h => h); have H5 := hid (And.intro B05 (And.intro sv5 su5)); clear B5 hA5 B05 sv5 su5)
  have hb5 := (H5.out.1.block b lb).trans HW.out.1
  have VN : ∀ k, Value.ownBlock (.slice av nv cv) = some k ∨ Value.ownBlock (.slice au nu cu) = some k → w.heap.size ≤ k := fun k e => by have := H2.out.2.2.2.1 k e; omega
  have lo2 : ∀ k, l2.ownBlock = some k → k < w.heap.size := fun k e => HW.out.2.1.lt e
  have lo3 : ∀ k, l3.ownBlock = some k → k < w.heap.size := fun k e => HW.out.2.2.2.1.lt e
  have NB := space_any b ps l1 l2 l3 (.slice av nv cv) (.slice au nu cu) prow lrow ((R1.map qRow).length) ((R2.map qRow).length) _ _ w5.drew hb5 (HW.out.2.1.below H5.out.1).drew HW.out.2.2.1 (HW.out.2.2.2.1.below H5.out.1).drew HW.out.2.2.2.2.1 H5.out.2.1.drew.own (by simp; omega) H5.out.2.2.drew.own (by simp; omega) HW.out.2.2.2.2.2.1 HW.out.2.2.2.2.2.2.1
    (fun e => by have := VN b (.inl e); omega) (fun e => by have := VN b (.inr e); omega) (fun k e => ⟨fun h => by have := VN k (.inl e); have := lo2 k h; omega, fun h => by have := VN k (.inl e); have := lo3 k h; omega, H2.out.2.2.2.2 k e⟩) (fun k e => ⟨fun h => by have := VN k (.inr e); have := lo2 k h; omega, fun h => by have := VN k (.inr e); have := lo3 k h; omega⟩) HW.out.2.2.2.2.2.2.2
  have HN := hid (And.intro NB VN)
  clear NB hb5 VN lo2 lo3
  have lb5 : b < w5.heap.size := Nat.lt_of_lt_of_le lb H5.out.1.size
  go_region_with (go_at_call 73; refine HN.out.1.mono ?_; rintro e w6 ⟨rfl, H6⟩; replace H6 := hid H6)
  all_goals
    go_wp2
    go_ret
    obtain ⟨wm, pas', v1, v2, v3, lea', u1, u2, u3, k1, k2⟩ := H6.out
    refine ⟨rfl, .slice av nv cv, .slice au nu cu, w5, H5.out.1, fun k hk => ⟨HN.out.2 k hk, ?_⟩, H2.out.2.2.2.2, wm, pas', v1, v2, v3, lea', u1, u2, u3, ⟨k1.at_, k1.sl, k1.m0, k1.m1, k1.m2, k1.m3, ⟨k1.fr.os, k1.fr.tape, k1.fr.output, k1.fr.size, k1.fr.block⟩, k1.fresh, k1.own⟩, k2⟩
    rcases hk with hk | hk
    · exact H5.out.2.1.lt hk
    · exact H5.out.2.2.lt hk
end Go.Proofs.YtgiiegppaleldaaGreatDoor
