import Derived.Test.YtgiiegppaleldaaGreatDoorA
import Derived.Test.YtgiiegppaleldaaGreatDoorL2
import Derived.Deep.QuietTactic
import Derived.BigQuiet
import Derived.Deep.DeepCutAuto
import Derived.Deep.RegionHeld3
namespace Go.Proofs.YtgiiegppaleldaaGreatDoor
open Go.RowKit

def nRow (n : Int) : List Value := [.int .i64 n]
def qRow' (p : Int × Int × Int × Int) : List Value := [.int .i64 p.1, .int .i64 p.2.1, .int .i64 p.2.2.1, .int .i64 p.2.2.2]

set_option maxRecDepth 100000 in
set_option maxHeartbeats 4000000 in
theorem sameThread_any (s c f g : Int) (v u : Value) (ws : List Int) (w : World) (iv : Inl w 1 v (ws.map nRow)) (iu : Inl w 1 u (ws.map nRow)) :
    Calls Tryz.prog 68 #[.agg #[.int .i64 s, .int .i64 c, .int .i64 f, v, .int .i64 g], .agg #[.int .i64 s, .int .i64 c, .int .i64 f, u, .int .i64 g]] w fun e w' => e = .returned (.bool true) ∧ Below w.heap.size w w' := by
  obtain ⟨av, cv, ev⟩ := iv.slice
  obtain ⟨au, cu, eu⟩ := iu.slice
  have hml : ws.length ≤ maxLen := by obtain ⟨_, _, _, h, _⟩ := iv.form; simpa using h
  rw [List.length_map] at ev eu
  subst ev eu
  generalize hn : ws.length = n at *
  unfold maxLen at hml
  have HI := hid (And.intro iv (And.intro iu hn))
  clear iv iu hn
  go_enter Tryz.func68, Tryz.ntmps68
  go_wp2
  go_loopw [5] (fun i wr => ∃ k : Nat, k ≤ n ∧ i = .int .i64 k ∧ Below (w.heap.size + 1 + 1) ((w.alloc (.cells #[.int .i64 s, .int .i64 c, .int .i64 f, .slice av n cv, .int .i64 g] 137)).alloc (.cells #[.int .i64 s, .int .i64 c, .int .i64 f, .slice au n cu, .int .i64 g] 137)) wr) (fun i _ => n - (intOf i).toNat)
  case atStart => exact ⟨0, Nat.zero_le _, rfl, Below.refl _ _⟩
  case round =>
    obtain ⟨k, hk, rfl, hw⟩ := hrel
    have hw' : Below ((w.alloc (.cells #[.int .i64 s, .int .i64 c, .int .i64 f, .slice av n cv, .int .i64 g] 137)).alloc (.cells #[.int .i64 s, .int .i64 c, .int .i64 f, .slice au n cu, .int .i64 g] 137)).heap.size ((w.alloc (.cells #[.int .i64 s, .int .i64 c, .int .i64 f, .slice av n cv, .int .i64 g] 137)).alloc (.cells #[.int .i64 s, .int .i64 c, .int .i64 f, .slice au n cu, .int .i64 g] 137)) wr := by rw [size_alloc, size_alloc]; exact hw
    have c1 : wr.cell? ⟨w.heap.size, 3, none⟩ = some (.slice av n cv) := (hw.cell (p := ⟨w.heap.size, 3, none⟩) (by show w.heap.size < _; omega)).trans ((cell_of_row _ _ 3 _ _ _ (heap_alloc2_old w _ _)).trans rfl)
    have c2 : wr.cell? ⟨w.heap.size + 1, 3, none⟩ = some (.slice au n cu) := (hw.cell (p := ⟨w.heap.size + 1, 3, none⟩) (by show w.heap.size + 1 < _; omega)).trans ((cell_of_row _ _ 3 _ _ _ (heap_alloc2_new w _ _)).trans rfl)
    by_cases hlt : k < n
    · obtain ⟨x, hx⟩ : ∃ x, ws[k]? = some x := ⟨_, List.getElem?_eq_getElem (by have := HI.out.2.2; omega)⟩
      obtain ⟨b1, o1, e1, r1⟩ := (((HI.out.1.alloc (by decide) (.cells #[.int .i64 s, .int .i64 c, .int .i64 f, .slice av n cv, .int .i64 g] 137)).alloc (by decide) (.cells #[.int .i64 s, .int .i64 c, .int .i64 f, .slice au n cu, .int .i64 g] 137)).below (by decide) hw').row (k := k) (r := [.int .i64 x]) (by rw [List.getElem?_map, hx]; rfl)
      obtain ⟨b2, o2, e2, r2⟩ := (((HI.out.2.1.alloc (by decide) (.cells #[.int .i64 s, .int .i64 c, .int .i64 f, .slice av n cv, .int .i64 g] 137)).alloc (by decide) (.cells #[.int .i64 s, .int .i64 c, .int .i64 f, .slice au n cu, .int .i64 g] 137)).below (by decide) hw').row (k := k) (r := [.int .i64 x]) (by rw [List.getElem?_map, hx]; rfl)
      subst e1 e2
      have h1 := r1 0 (.int .i64 x) rfl
      have h2 := r2 0 (.int .i64 x) rfl
      simp only [Nat.mul_one, Nat.add_zero] at h1 h2
      have HW := hid hw
      clear r1 r2 hx hw hw'
      go_wp2_with fail
      go_quiet (fail)
      go_wp2
      go_roundw
      case rel => exact ⟨k + 1, by omega, by go_num, below_drewN HW.out _⟩
      case measure => simp [intOf]; omega
    · clear hw'
      have HW := hid hw
      clear hw
      go_wp2
      go_ret
      exact ⟨rfl, (((Below.refl _ w).alloc (Nat.le_refl _) _).alloc (by simp) _).trans (HW.out.mono (by omega))⟩
set_option maxRecDepth 100000 in
set_option maxHeartbeats 8000000 in
theorem sameSpace_any (v u v' u' : Value) (Q L : List (Int × Int × Int × Int)) (w : World) (iv : Inl w 4 v (Q.map qRow')) (iv' : Inl w 4 v' (Q.map qRow')) (iu : Inl w 4 u (L.map qRow')) (iu' : Inl w 4 u' (L.map qRow')) :
    Calls Tryz.prog 72 #[.agg #[v, u], .agg #[v', u']] w fun e w' => e = .returned (.bool true) ∧ Below w.heap.size w w' := by
  obtain ⟨ap, cp, e1⟩ := iv.slice
  obtain ⟨bp, dp, e2⟩ := iv'.slice
  obtain ⟨aq, cq, e3⟩ := iu.slice
  obtain ⟨bq, dq, e4⟩ := iu'.slice
  have hm1 : Q.length ≤ maxLen := by obtain ⟨_, _, _, h, _⟩ := iv.form; simpa using h
  have hm2 : L.length ≤ maxLen := by obtain ⟨_, _, _, h, _⟩ := iu.form; simpa using h
  rw [List.length_map] at e1 e2 e3 e4
  subst e1 e2 e3 e4
  generalize hn : Q.length = n at *
  generalize hm : L.length = m at *
  unfold maxLen at hm1 hm2
  have HI := hid (And.intro iv (And.intro iv' (And.intro iu iu')))
  have HN := hid (And.intro hn hm)
  clear iv iv' iu iu' hn hm
  go_enter Tryz.func72, Tryz.ntmps72
  go_wp2
  go_loopw [5] (fun i wr => ∃ k : Nat, k ≤ n ∧ i = .int .i64 k ∧ Below (w.heap.size + 1 + 1) ((w.alloc (.cells #[.slice ap n cp, .slice aq m cq] 143)).alloc (.cells #[.slice bp n dp, .slice bq m dq] 143)) wr) (fun i _ => n - (intOf i).toNat)
  case atStart => exact ⟨0, Nat.zero_le _, rfl, Below.refl _ _⟩
  case round =>
    obtain ⟨k, hk, rfl, hw⟩ := hrel
    have hw' : Below (World.heap ((w.alloc (.cells #[.slice ap n cp, .slice aq m cq] 143)).alloc (.cells #[.slice bp n dp, .slice bq m dq] 143))).size ((w.alloc (.cells #[.slice ap n cp, .slice aq m cq] 143)).alloc (.cells #[.slice bp n dp, .slice bq m dq] 143)) wr := by rw [size_alloc, size_alloc]; exact hw
    have c1 : wr.cell? ⟨w.heap.size, 0, none⟩ = some (.slice ap n cp) := (hw.cell (p := ⟨w.heap.size, 0, none⟩) (by show w.heap.size < _; omega)).trans ((cell_of_row _ _ 0 _ _ _ (heap_alloc2_old w _ _)).trans rfl)
    have c2 : wr.cell? ⟨w.heap.size + 1, 0, none⟩ = some (.slice bp n dp) := (hw.cell (p := ⟨w.heap.size + 1, 0, none⟩) (by show w.heap.size + 1 < _; omega)).trans ((cell_of_row _ _ 0 _ _ _ (heap_alloc2_new w _ _)).trans rfl)
    by_cases hlt : k < n
    · obtain ⟨x, hx⟩ : ∃ x, Q[k]? = some x := ⟨_, List.getElem?_eq_getElem (by have := HN.out; omega)⟩
      obtain ⟨b1, o1, e1, r1⟩ := (((HI.out.1.alloc (by decide) _).alloc (by decide) _).below (by decide) hw').row (k := k) (r := [.int .i64 x.1, .int .i64 x.2.1, .int .i64 x.2.2.1, .int .i64 x.2.2.2]) (by rw [List.getElem?_map, hx]; rfl)
      obtain ⟨b2, o2, e2, r2⟩ := (((HI.out.2.1.alloc (by decide) _).alloc (by decide) _).below (by decide) hw').row (k := k) (r := [.int .i64 x.1, .int .i64 x.2.1, .int .i64 x.2.2.1, .int .i64 x.2.2.2]) (by rw [List.getElem?_map, hx]; rfl)
      subst e1 e2
      have g0 := r1 0 (.int .i64 x.1) rfl
      have g1 := r1 1 (.int .i64 x.2.1) rfl
      have g2 := r1 2 (.int .i64 x.2.2.1) rfl
      have g3 := r1 3 (.int .i64 x.2.2.2) rfl
      have k0 := r2 0 (.int .i64 x.1) rfl
      have k1 := r2 1 (.int .i64 x.2.1) rfl
      have k2 := r2 2 (.int .i64 x.2.2.1) rfl
      have k3 := r2 3 (.int .i64 x.2.2.2) rfl
      simp only [Nat.add_zero] at g0 k0
      have HW := hid hw'
      clear r1 r2 hx hw hw'
      go_wp2_with fail
      go_cut [6] (fun s wc => s = .bool true ∧ Below wr.heap.size wr wc)
      case first =>
        go_region_with (go_at_call 42; refine (samePass_any _ _ _ _ _ _ _ _ _).mono ?_; rintro e w1 ⟨rfl, hb1⟩)
        all_goals
          go_wp2
          go_meet
          case rel => exact ⟨by simp, Below.trans (b := wr.drew) ((Below.refl _ wr).drew) hb1⟩
      case rest =>
      obtain ⟨rfl, hcut2⟩ := hcut
      have HB2 := hid (HW.out.trans (hcut2.mono HW.out.size))
      rw [size_alloc, size_alloc] at HB2
      clear hcut2
      go_wp2
      refine ⟨⟨k + 1, by omega, by go_num, HB2.out⟩, by simp [intOf]; omega⟩
    · clear hw'
      have HW := hid hw
      clear hw
      go_wp2_with fail
      clear c1 c2 hk hlt
      go_loopw [7] (fun i wr => ∃ k : Nat, k ≤ m ∧ i = .int .i64 k ∧ Below (w.heap.size + 1 + 1) ((w.alloc (.cells #[.slice ap n cp, .slice aq m cq] 143)).alloc (.cells #[.slice bp n dp, .slice bq m dq] 143)) wr) (fun i _ => m - (intOf i).toNat)
      case atStart => exact ⟨0, Nat.zero_le _, rfl, HW.out⟩
      case round =>
        obtain ⟨k, hk, rfl, hw⟩ := hrel
        have hw' : Below (World.heap ((w.alloc (.cells #[.slice ap n cp, .slice aq m cq] 143)).alloc (.cells #[.slice bp n dp, .slice bq m dq] 143))).size ((w.alloc (.cells #[.slice ap n cp, .slice aq m cq] 143)).alloc (.cells #[.slice bp n dp, .slice bq m dq] 143)) wr := by rw [size_alloc, size_alloc]; exact hw
        have c1 : wr.cell? ⟨w.heap.size, 1, none⟩ = some (.slice aq m cq) := (hw.cell (p := ⟨w.heap.size, 1, none⟩) (by show w.heap.size < _; omega)).trans ((cell_of_row _ _ 1 _ _ _ (heap_alloc2_old w _ _)).trans rfl)
        have c2 : wr.cell? ⟨w.heap.size + 1, 1, none⟩ = some (.slice bq m dq) := (hw.cell (p := ⟨w.heap.size + 1, 1, none⟩) (by show w.heap.size + 1 < _; omega)).trans ((cell_of_row _ _ 1 _ _ _ (heap_alloc2_new w _ _)).trans rfl)
        by_cases hlt : k < m
        · obtain ⟨x, hx⟩ : ∃ x, L[k]? = some x := ⟨_, List.getElem?_eq_getElem (by have := HN.out; omega)⟩
          obtain ⟨b1, o1, e1, r1⟩ := (((HI.out.2.2.1.alloc (by decide) _).alloc (by decide) _).below (by decide) hw').row (k := k) (r := [.int .i64 x.1, .int .i64 x.2.1, .int .i64 x.2.2.1, .int .i64 x.2.2.2]) (by rw [List.getElem?_map, hx]; rfl)
          obtain ⟨b2, o2, e2, r2⟩ := (((HI.out.2.2.2.alloc (by decide) _).alloc (by decide) _).below (by decide) hw').row (k := k) (r := [.int .i64 x.1, .int .i64 x.2.1, .int .i64 x.2.2.1, .int .i64 x.2.2.2]) (by rw [List.getElem?_map, hx]; rfl)
          subst e1 e2
          have g0 := r1 0 (.int .i64 x.1) rfl
          have g1 := r1 1 (.int .i64 x.2.1) rfl
          have g2 := r1 2 (.int .i64 x.2.2.1) rfl
          have g3 := r1 3 (.int .i64 x.2.2.2) rfl
          have k0 := r2 0 (.int .i64 x.1) rfl
          have k1 := r2 1 (.int .i64 x.2.1) rfl
          have k2 := r2 2 (.int .i64 x.2.2.1) rfl
          have k3 := r2 3 (.int .i64 x.2.2.2) rfl
          simp only [Nat.add_zero] at g0 k0
          have HW := hid hw'
          clear r1 r2 hx hw hw'
          go_wp2_with fail
          go_cut [8] (fun s wc => s = .bool true ∧ Below wr.heap.size wr wc)
          case first =>
            go_region_with (go_at_call 43; refine (sameLeaf_any _ _ _ _ _ _ _ _ _).mono ?_; rintro e w1 ⟨rfl, hb1⟩)
            all_goals
              go_wp2
              go_meet
              case rel => exact ⟨by simp, Below.trans (b := wr.drew) ((Below.refl _ wr).drew) hb1⟩
          case rest =>
          obtain ⟨rfl, hcut2⟩ := hcut
          have HB2 := hid (HW.out.trans (hcut2.mono HW.out.size))
          rw [size_alloc, size_alloc] at HB2
          clear hcut2
          go_wp2
          go_roundw
          case rel => first | exact ⟨k + 1, by omega, by go_num, HB2.out⟩ | ((repeat apply Exists.intro); exact ⟨⟨k + 1, by omega, by go_num, HB2.out⟩, rfl⟩)
          case measure => simp [intOf]; omega
        · clear hw'
          have HW := hid hw
          clear hw
          go_wp2
          go_ret
          exact ⟨rfl, (((Below.refl _ w).alloc (Nat.le_refl _) _).alloc (by simp) _).trans (HW.out.mono (by omega))⟩

end Go.Proofs.YtgiiegppaleldaaGreatDoor
