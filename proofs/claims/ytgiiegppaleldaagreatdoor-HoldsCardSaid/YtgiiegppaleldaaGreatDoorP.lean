import Derived.Test.YtgiiegppaleldaaGreatDoorN
import Derived.Deep.QuietTactic
import Derived.BigQuiet
namespace Go.Proofs.YtgiiegppaleldaaGreatDoor
open Go.RowKit

def RK.ticked (K : RK) : RK := { K with clock := K.clock + 1 }
/-- One tick, as long as nobody has a time. -/
def RK.tick (K : RK) : RK :=
  match K.threads[(curTo K.threads K.threads.length).toNat]? with
  | some u => if u.2.2.2 - 1 = 0 then ((K.ticked.setLeft (curTo K.threads K.threads.length).toNat 3).toLast (curTo K.threads K.threads.length).toNat) else K.ticked.setLeft (curTo K.threads K.threads.length).toNat (u.2.2.2 - 1)
  | none => K.ticked

theorem modify_modify_left (L : List (Int × Int × Int × Int)) (t : Nat) (a b : Int) : (L.modify t (fun u => (u.1, u.2.1, u.2.2.1, a))).modify t (fun u => (u.1, u.2.1, u.2.2.1, b)) = L.modify t (fun u => (u.1, u.2.1, u.2.2.1, b)) := by
  apply List.ext_getElem?
  intro i
  simp only [List.getElem?_modify]
  by_cases e : t = i <;> simp [e] <;> (cases L[i]? <;> rfl)

set_option maxRecDepth 100000 in
set_option maxHeartbeats 8000000 in
theorem refTick_any (y : Nat) (K : RK) (vt vp vl : Value) (w : World) (h : RefAt w y K vt vp vl) (hb : K.threads.length ≤ 6) (hp : 0 < K.threads.length) (l0 : 0 ≤ K.last) (l1 : K.last ≤ 4611686018427387904) (k0 : 0 ≤ K.clock) (k1 : K.clock ≤ 4611686018427387904) (hleft : ∀ (i : Nat) u, K.threads[i]? = some u → 1 ≤ u.2.2.2 ∧ u.2.2.2 ≤ 3) :
    Calls Tryz.prog 18 #[.pointer (some ⟨y, 0, none⟩)] w fun e w' => e = .returned (.tuple #[]) ∧ RefAt w' y K.tick vt vp vl ∧ Fr (RefOwn y vt vp vl) w w' := by
  obtain ⟨j, u, ec, hj, hu⟩ : ∃ (j : Nat) (u : Int × Int × Int × Int), curTo K.threads K.threads.length = j ∧ j < K.threads.length ∧ K.threads[j]? = some u := by
    rcases curTo_inv K.threads _ (Nat.le_refl _) with ⟨h0, _⟩ | h1
    · omega
    · exact h1
  obtain ⟨u1, u2⟩ := hleft j u hu
  have ET : Hid (K.tick = if u.2.2.2 - 1 = 0 then ((K.ticked.setLeft j 3).toLast j) else K.ticked.setLeft j (u.2.2.2 - 1)) := by
    unfold Hid RK.tick; rw [ec, Int.toNat_natCast, hu]
  obtain ⟨a, c, ev⟩ := h.th.slice
  rw [List.length_map] at ev
  subst ev
  obtain ⟨g, ea, hx⟩ := h.th.is_some hp
  clear hx
  subst ea
  obtain ⟨m, hm⟩ : ∃ m, K.threads.length = m := ⟨_, rfl⟩
  rw [hm] at h ⊢
  have HC : Hid (K.ticked.clock = K.clock + 1) := rfl
  have c5 : w.cell? ⟨y, 36, none⟩ = some (.int .i64 K.clock) := (cell_of_row w y 36 _ _ _ h.blk).trans rfl
  have fy : ∀ q, w.frozen? ⟨y, q, none⟩ = false := fun q => frozen_of_row _ _ _ _ _ h.blk
  have h0 := h.setCell_y (K' := K.ticked) (j := 36) (x := .int .i64 (K.clock + 1)) rfl rfl rfl rfl
  have F0 : Fr (RefOwn y (.slice (some ⟨g, 0, none⟩) m c) vp vl) w (w.setCell ⟨y, 36, none⟩ (.int .i64 (K.clock + 1))) := (Fr.refl _ w).setCell (p := ⟨y, 36, none⟩) (fun _ => .inl rfl) _
  have HH := hid (And.intro h0 (And.intro hu (And.intro ec (And.intro hj (And.intro hb (And.intro l0 (And.intro l1 (And.intro F0 hm))))))))
  have jm : (j : Int) < (m : Int) := by omega
  have jn : j < m := by omega
  have mb : (m : Int) ≤ 6 := by omega
  clear h hu ec hj hb hp h0 F0 hleft hm
  go_enter Tryz.func18, Tryz.ntmps18
  go_wp2_with fail
  refine (refCurrent_any y K.ticked _ vp vl _ HH.out.1 HH.out.2.2.2.2.1).mono ?_
  rintro e w1 ⟨rfl, hb1⟩
  rw [show curTo K.ticked.threads K.ticked.threads.length = j from HH.out.2.2.1]
  have h1 := HH.out.1.below hb1
  have c0 : w1.cell? ⟨y, 0, none⟩ = some (.slice (some ⟨g, 0, none⟩) m c) := (cell_of_row w1 y 0 _ _ _ h1.blk).trans rfl
  have fg : ∀ q, w1.frozen? ⟨g, q, none⟩ = false := fun q => h1.th.fro q
  have cg : w1.cell? ⟨g, j * 20 + 4, none⟩ = some (.int .i64 u.2.2.2) := (h1.th.row (i := j) (r := rtRow u) (by rw [List.getElem?_map, show K.ticked.threads = K.threads from rfl, HH.out.2.1]; rfl)) 4 _ rfl
  have hyg : y ≠ g := fun e => h1.n1 (by rw [e]; rfl)
  have hgy : g ≠ y := fun e => hyg e.symm
  have h2 := h1.setCell_th (t := j) (j := 4) (fun v => (v.1, v.2.1, v.2.2.1, u.2.2.2 - 1)) (.int .i64 (u.2.2.2 - 1)) HH.out.2.1 (by decide) rfl
  have F2 : Fr (RefOwn y (.slice (some ⟨g, 0, none⟩) m c) vp vl) w (w1.setCell ⟨g, j * 20 + 4, none⟩ (.int .i64 (u.2.2.2 - 1))) := (HH.out.2.2.2.2.2.2.2.1.trans (Fr.of_below hb1 _)).setCell (p := ⟨g, j * 20 + 4, none⟩) (fun _ => .inr (.inl rfl)) _
  have H2 := hid (And.intro h2 F2)
  have H1 := hid (And.intro h1 hb1)
  clear h1 hb1 h2 F2
  by_cases z : u.2.2.2 - 1 = 0
  · have z1 : (u.2.2.2 - 1 == 0) = true := by simp [z]
    have Z := hid z
    clear z
    go_wp2_with fail
    have hu2 : (K.ticked.setLeft j (u.2.2.2 - 1)).threads[j]? = some (u.1, u.2.1, u.2.2.1, u.2.2.2 - 1) := by simp [RK.setLeft, RK.ticked, HH.out.2.1]
    have h3 := (show RefAt _ y (K.ticked.setLeft j (u.2.2.2 - 1)) _ vp vl from H2.out.1).setCell_th (t := j) (j := 4) (fun v => (v.1, v.2.1, v.2.2.1, 3)) (.int .i64 3) hu2 (by decide) rfl
    have e3 : ({ (K.ticked.setLeft j (u.2.2.2 - 1)) with threads := (K.ticked.setLeft j (u.2.2.2 - 1)).threads.modify j (fun v => (v.1, v.2.1, v.2.2.1, 3)) } : RK) = K.ticked.setLeft j 3 := by
      simp only [RK.setLeft, RK.ticked, modify_modify_left]
    rw [e3] at h3
    have F3 := H2.out.2.setCell (p := ⟨g, j * 20 + 4, none⟩) (fun _ => .inr (.inl rfl)) (.int .i64 3)
    refine (refToLast_any y (K.ticked.setLeft j 3) _ vp vl j _ h3 (by simp [RK.setLeft, RK.ticked]; exact HH.out.2.2.2.2.1) (by simp [RK.setLeft, RK.ticked]; exact HH.out.2.2.2.1) HH.out.2.2.2.2.2.1 HH.out.2.2.2.2.2.2.1).mono ?_
    rintro e W0 ⟨rfl, h4, f4⟩
    have HL := hid (And.intro h4 (F3.trans f4))
    have EK : Hid (K.tick = (K.ticked.setLeft j 3).toLast j) := by unfold Hid; rw [ET.out, if_pos Z.out]
    have HM2 : Hid (((K.ticked.setLeft j 3).toLast j).threads.length = m) := by unfold Hid; simp [RK.setLeft, RK.toLast, RK.ticked]; exact HH.out.2.2.2.2.2.2.2.2
    have HC : Hid (((K.ticked.setLeft j 3).toLast j).clock = K.clock + 1) := rfl
    generalize (K.ticked.setLeft j 3).toLast j = KF at *
    have cx : W0.cell? ⟨y, 0, none⟩ = some (.slice (some ⟨g, 0, none⟩) m c) := (cell_of_row W0 y 0 _ _ _ HL.out.1.blk).trans rfl
    clear h3 F3 h4 f4 hu2 e3 c0 cg fg H1 H2
    go_wp2_with fail
    go_loopw [3] (fun i wr => ∃ k : Nat, k ≤ m ∧ i = .int .i64 k ∧ Below W0.heap.size W0 wr) (fun i _ => m - (intOf i).toNat)
    case atStart => exact ⟨0, Nat.zero_le _, rfl, Below.refl _ _⟩
    case round =>
      obtain ⟨k, hk, rfl, hw⟩ := hrel
      have hr := HL.out.1.below hw
      have c0 : wr.cell? ⟨y, 0, none⟩ = some (.slice (some ⟨g, 0, none⟩) m c) := (cell_of_row wr y 0 _ _ _ hr.blk).trans rfl
      have c5 : wr.cell? ⟨y, 36, none⟩ = some (.int .i64 (K.clock + 1)) := (cell_of_row wr y 36 _ _ _ hr.blk).trans (by rw [HC.out]; rfl)
      have HW := hid hw
      by_cases hlt : k < m
      · have kl : k < KF.threads.length := by have := HM2.out; omega
        have ct : wr.cell? ⟨g, k * 20 + 15, none⟩ = some (.int .i64 (-1)) := (hr.th.row (i := k) (r := rtRow KF.threads[k]) (by rw [List.getElem?_map, List.getElem?_eq_getElem kl]; rfl)) 15 _ rfl
        have km : (k : Int) < (m : Int) := by omega
        have hne : ((-1 : Int) == K.clock + 1) = false := by simp; omega
        clear hw hr kl
        go_wp2_with fail
        go_quiet (fail)
        go_wp2
        first
          | exact ⟨⟨k + 1, by omega, by go_num, below_drewN HW.out _⟩, by simp [intOf]; omega⟩
          | (go_roundw
             case rel => first | exact ⟨k + 1, by omega, by go_num, below_drewN HW.out _⟩ | ((repeat apply Exists.intro); exact ⟨⟨k + 1, by omega, by go_num, below_drewN HW.out _⟩, rfl⟩)
             case measure => simp [intOf]; omega)
      · have HR := hid hr
        clear hr hw
        go_wp2
        go_end0
        refine ⟨rfl, ?_, HL.out.2.trans (Fr.of_below HW.out _)⟩
        rw [EK.out]
        exact HR.out
  · have z1 : (u.2.2.2 - 1 == 0) = false := by simp [z]
    have Z := hid z
    clear z
    go_wp2_with fail
    have HL : Hid _ := H2
    have EK : Hid (K.tick = K.ticked.setLeft j (u.2.2.2 - 1)) := by unfold Hid; rw [ET.out, if_neg Z.out]
    have HL : Hid (RefAt (w1.setCell ⟨g, j * 20 + 4, none⟩ (.int .i64 (u.2.2.2 - 1))) y (K.ticked.setLeft j (u.2.2.2 - 1)) (.slice (some ⟨g, 0, none⟩) m c) vp vl ∧ Fr (RefOwn y (.slice (some ⟨g, 0, none⟩) m c) vp vl) w (w1.setCell ⟨g, j * 20 + 4, none⟩ (.int .i64 (u.2.2.2 - 1)))) := H2
    have HM2 : Hid ((K.ticked.setLeft j (u.2.2.2 - 1)).threads.length = m) := by unfold Hid; simp [RK.setLeft, RK.ticked]; exact HH.out.2.2.2.2.2.2.2.2
    have HC : Hid ((K.ticked.setLeft j (u.2.2.2 - 1)).clock = K.clock + 1) := rfl
    clear c0 cg fg H1 H2
    generalize w1.setCell ⟨g, j * 20 + 4, none⟩ (.int .i64 (u.2.2.2 - 1)) = W0 at *
    generalize K.ticked.setLeft j (u.2.2.2 - 1) = KF at *
    go_loopw [3] (fun i wr => ∃ k : Nat, k ≤ m ∧ i = .int .i64 k ∧ Below W0.heap.size W0 wr) (fun i _ => m - (intOf i).toNat)
    case atStart => exact ⟨0, Nat.zero_le _, rfl, Below.refl _ _⟩
    case round =>
      obtain ⟨k, hk, rfl, hw⟩ := hrel
      have hr := HL.out.1.below hw
      have c0 : wr.cell? ⟨y, 0, none⟩ = some (.slice (some ⟨g, 0, none⟩) m c) := (cell_of_row wr y 0 _ _ _ hr.blk).trans rfl
      have c5 : wr.cell? ⟨y, 36, none⟩ = some (.int .i64 (K.clock + 1)) := (cell_of_row wr y 36 _ _ _ hr.blk).trans (by rw [HC.out]; rfl)
      have HW := hid hw
      by_cases hlt : k < m
      · have kl : k < KF.threads.length := by have := HM2.out; omega
        have ct : wr.cell? ⟨g, k * 20 + 15, none⟩ = some (.int .i64 (-1)) := (hr.th.row (i := k) (r := rtRow KF.threads[k]) (by rw [List.getElem?_map, List.getElem?_eq_getElem kl]; rfl)) 15 _ rfl
        have km : (k : Int) < (m : Int) := by omega
        have hne : ((-1 : Int) == K.clock + 1) = false := by simp; omega
        clear hw hr kl
        go_wp2_with fail
        go_quiet (fail)
        go_wp2
        first
          | exact ⟨⟨k + 1, by omega, by go_num, below_drewN HW.out _⟩, by simp [intOf]; omega⟩
          | (go_roundw
             case rel => first | exact ⟨k + 1, by omega, by go_num, below_drewN HW.out _⟩ | ((repeat apply Exists.intro); exact ⟨⟨k + 1, by omega, by go_num, below_drewN HW.out _⟩, rfl⟩)
             case measure => simp [intOf]; omega)
      · have HR := hid hr
        clear hr hw
        go_wp2
        go_end0
        refine ⟨rfl, ?_, HL.out.2.trans (Fr.of_below HW.out _)⟩
        rw [EK.out]
        exact HR.out
end Go.Proofs.YtgiiegppaleldaaGreatDoor

namespace Go.Proofs.YtgiiegppaleldaaGreatDoor
open Go.RowKit

theorem results_row_tmp {P : Program} {fn : Func} {p q : Tmp} {ty : TypeId} (h : fn.results = #[.cell p ty, .tmp q]) (tmps : Array Value) (w : World) (g : Nat) (t : TypeId) (cs : Array Value) (fr : Nat × Nat) (d : TypeDesc) (r : Value)
    (hp : tmps.getD p undef = .pointer (some ⟨g, 0, none⟩)) (hg : w.heap[g]? = some (.cells cs t fr)) (hu : P.underlying ty = some d) (hd : (match d with | .struct _ | .array _ _ => true | _ => false) = true) (hi : (P.info? ty).map (·.size) = some cs.size) (hr : tmps.getD q undef = r) :
    (results fn tmps).run P w = .ok (.tuple #[.agg cs, r]) w := by
  have hp' : tmps[p]?.getD undef = .pointer (some ⟨g, 0, none⟩) := by simpa using hp
  have hq' : tmps[q]?.getD undef = r := by simpa using hr
  simp [results, h, hp', hq', asAddr, run_loadVar_row w g t ty cs fr d hg hu hd hi]

set_option maxRecDepth 100000 in
set_option maxHeartbeats 4000000 in
theorem refLook_no (y : Nat) (K : RK) (vt vp vl : Value) (t : Int) (w : World) (h : RefAt w y K vt vp vl) (hb : K.threads.length ≤ 6) (ht : ¬ (0 ≤ t ∧ t < K.threads.length)) :
    Calls Tryz.prog 67 #[.pointer (some ⟨y, 0, none⟩), .int .i64 t] w fun e w' => e = .returned (.tuple #[.agg #[.int .i64 0, .int .i64 0, .int .i64 0, .slice none 0 0, .int .i64 0], .int .i64 3]) ∧ Below w.heap.size w w' := by
  have c0 : w.cell? ⟨y, 0, none⟩ = some vt := (cell_of_row w y 0 _ _ _ h.blk).trans rfl
  have ly := (Array.getElem?_eq_some_iff.1 h.blk).1
  obtain ⟨a, c, ev⟩ := h.th.slice
  rw [List.length_map] at ev
  subst ev
  obtain ⟨m, hm⟩ : ∃ m, K.threads.length = m := ⟨_, rfl⟩
  rw [hm] at c0 hb ht
  have hi : inI t 0 ((m : Int) - 1) = false := inI_false.2 (by omega)
  clear h hm ht
  go_enter Tryz.func67, Tryz.ntmps67
  go_wp2_with (go_at_call 61; refine (in_any _ _ _ _).mono ?_; rintro e w1 ⟨rfl, rfl⟩)
  refine bodyPost_ret (v := .tuple #[.agg #[.int .i64 0, .int .i64 0, .int .i64 0, .slice none 0 0, .int .i64 0], .int .i64 3]) (results_row_tmp Tryz.results67 _ _ w.heap.size 137 _ (0, 0) _ _ rfl (heap_alloc_new w _) Tryz.underlying137 rfl (by kernel_rfl) rfl) rfl ⟨rfl, (Below.refl _ w).alloc (Nat.le_refl _) _⟩

set_option maxRecDepth 100000 in
set_option maxHeartbeats 4000000 in
theorem refLook_yes (y : Nat) (K : RK) (vt vp vl : Value) (t : Nat) (w : World) (h : RefAt w y K vt vp vl) (hb : K.threads.length ≤ 6) (ht : t < K.threads.length) :
    Calls Tryz.prog 67 #[.pointer (some ⟨y, 0, none⟩), .int .i64 t] w fun e w' => e = .returned (.tuple #[.agg #[.int .i64 1, .int .i64 0, .int .i64 (-1), .slice none 0 0, .int .i64 (-1)], .int .i64 0]) ∧ Below w.heap.size w w' := by
  obtain ⟨u, hu⟩ : ∃ u, K.threads[t]? = some u := ⟨_, List.getElem?_eq_getElem ht⟩
  have c0 : w.cell? ⟨y, 0, none⟩ = some vt := (cell_of_row w y 0 _ _ _ h.blk).trans rfl
  have ly := (Array.getElem?_eq_some_iff.1 h.blk).1
  obtain ⟨a, c, ev⟩ := h.th.slice
  rw [List.length_map] at ev
  subst ev
  obtain ⟨m, hm⟩ : ∃ m, K.threads.length = m := ⟨_, rfl⟩
  rw [hm] at c0 hb ht h
  obtain ⟨g, ea, hx⟩ := h.th.is_some (by omega)
  clear hx
  subst ea
  have hi : inI t 0 ((m : Int) - 1) = true := inI_true.2 (by omega)
  have tm : (t : Int) < (m : Int) := by omega
  have R1 := hid (World.rangeAt_alloc (h.th.row (i := t) (r := [.int .i64 u.1, .int .i64 u.2.1, .int .i64 1, .int .i64 u.2.2.1, .int .i64 u.2.2.2, .int .i64 0, .slice none 0 0, .int .i64 0, .int .i64 0, .int .i64 0, .int .i64 0, .int .i64 0, .bool false, .int .i64 0, .int .i64 0, .int .i64 (-1), .int .i64 0, .int .i64 (-1), .slice none 0 0, .int .i64 (-1)]) (by rw [List.getElem?_map, hu]; rfl)) (.cells #[.int .i64 0, .int .i64 0, .int .i64 0, .slice none 0 0, .int .i64 0] 137))
  clear h hm hu
  go_enter Tryz.func67, Tryz.ntmps67
  go_wp2_with (first
    | (go_at_call 61; refine (in_any _ _ _ _).mono ?_; rintro e w1 ⟨rfl, rfl⟩)
    | (with_reducible (show wpList _ _ _ (⟨_, .load 116 _, _, _, _, none⟩ :: _) _ _); go_must (refine wpList_load_mid rfl 116 _ rfl g (t * 20) rfl _ _ R1.out Tryz.underlying116 rfl (by kernel_rfl) ?_))
    | (with_reducible (show wpList _ _ _ (⟨_, .store 116 _ _, _, _, _, none⟩ :: _) _ _); go_must (refine wpList_store_new rfl 116 _ _ rfl (w.alloc (.cells #[.int .i64 0, .int .i64 0, .int .i64 0, .slice none 0 0, .int .i64 0] 137)) _ #[.int .i64 u.1, .int .i64 u.2.1, .int .i64 1, .int .i64 u.2.2.1, .int .i64 u.2.2.2, .int .i64 0, .slice none 0 0, .int .i64 0, .int .i64 0, .int .i64 0, .int .i64 0, .int .i64 0, .bool false, .int .i64 0, .int .i64 0, .int .i64 (-1), .int .i64 0, .int .i64 (-1), .slice none 0 0, .int .i64 (-1)] 116 (by simp [Act.eval]) rfl (by kernel_rfl) rfl ?_ ?_); (simp [Value.oneCell'])))
  refine bodyPost_ret (v := .tuple #[.agg #[.int .i64 1, .int .i64 0, .int .i64 (-1), .slice none 0 0, .int .i64 (-1)], .int .i64 0]) (results_row_tmp Tryz.results67 _ _ w.heap.size 137 _ (0, 0) _ _ rfl (heap_alloc2_old w _ _) Tryz.underlying137 rfl (by kernel_rfl) rfl) rfl ⟨rfl, ((Below.refl _ w).alloc (Nat.le_refl _) _).alloc (by simp) _⟩
end Go.Proofs.YtgiiegppaleldaaGreatDoor
