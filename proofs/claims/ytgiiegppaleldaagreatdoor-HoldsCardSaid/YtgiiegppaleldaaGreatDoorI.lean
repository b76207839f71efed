import Derived.Test.YtgiiegppaleldaaGreatDoorF
import Derived.Deep.QuietTactic
import Derived.BigQuiet
namespace Go.Proofs.YtgiiegppaleldaaGreatDoor
open Go.RowKit

def okT (sp : Int) (p : Int × Int) : Prop := 0 ≤ p.1 ∧ p.1 ≤ sp - 1 ∧ 0 ≤ p.2 ∧ p.2 ≤ 3
def okQ (sp h : Int) (p : Int × Int × Int × Int) : Prop := 0 ≤ p.1 ∧ p.1 ≤ sp - 1 ∧ 0 ≤ p.2.1 ∧ p.2.1 ≤ 5 ∧ 0 ≤ p.2.2.1 ∧ p.2.2.1 ≤ h ∧ 1 ≤ p.2.2.2 ∧ p.2.2.2 ≤ 3
def Apart (L : List (Int × Int × Int × Int)) : Prop := ∀ (i k : Nat) (p q : Int × Int × Int × Int), k < i → L[i]? = some p → L[k]? = some q → ¬ (q.1 = p.1 ∧ q.2.1 = p.2.1)
/-- May it be a configuration? -/
def Fits (sp : Int) (T : List (Int × Int)) (Q L : List (Int × Int × Int × Int)) : Prop :=
  (1 ≤ sp ∧ sp ≤ 3) ∧ (1 ≤ T.length ∧ T.length ≤ 6) ∧ (∀ (i : Nat) p, T[i]? = some p → okT sp p) ∧ (∀ (i : Nat) p, Q[i]? = some p → okQ sp ((T.length : Int) - 1) p) ∧ Apart Q ∧ (∀ (i : Nat) p, L[i]? = some p → okQ sp 7 p) ∧ Apart L

theorem inI_true {n lo hi : Int} : inI n lo hi = true ↔ lo ≤ n ∧ n ≤ hi := by simp [inI]
theorem inI_false {n lo hi : Int} : inI n lo hi = false ↔ ¬ (lo ≤ n ∧ n ≤ hi) := by simp [inI]

theorem Inl.below1 {w wq : World} {o : Obj} {size : Nat} {v : Value} {rows : List (List Value)} (h : Inl w size v rows) (hs : 0 < size) (hb : Below (w.heap.size + 1) (w.alloc o) wq) : Inl wq size v rows :=
  (h.alloc hs o).below hs (by rw [size_alloc]; exact hb)

theorem ne_step {L : List (Int × Int × Int × Int)} {p q : Int × Int × Int × Int} {m : Nat} (h : Hid (∀ (j : Nat) q, j < m → L[j]? = some q → ¬ (q.1 = p.1 ∧ q.2.1 = p.2.1))) (hq : L[m]? = some q) (hn : ¬ (q.1 = p.1 ∧ q.2.1 = p.2.1)) :
    Hid (∀ (j : Nat) q, j < m + 1 → L[j]? = some q → ¬ (q.1 = p.1 ∧ q.2.1 = p.2.1)) := fun j r hj hr => by
  by_cases e : j < m
  · exact h.out j r e hr
  · have : j = m := by omega
    subst this
    rw [hq] at hr
    cases hr
    exact hn

theorem ap_step {L : List (Int × Int × Int × Int)} {p : Int × Int × Int × Int} {k : Nat} (h : Hid (∀ (i j : Nat) p q, j < i → i < k → L[i]? = some p → L[j]? = some q → ¬ (q.1 = p.1 ∧ q.2.1 = p.2.1))) (hp : L[k]? = some p)
    (hn : Hid (∀ (j : Nat) q, j < k → L[j]? = some q → ¬ (q.1 = p.1 ∧ q.2.1 = p.2.1))) : Hid (∀ (i j : Nat) p q, j < i → i < k + 1 → L[i]? = some p → L[j]? = some q → ¬ (q.1 = p.1 ∧ q.2.1 = p.2.1)) := fun i j r s hj hi hr hs => by
  by_cases e : i < k
  · exact h.out i j r s hj e hr hs
  · have : i = k := by omega
    subst this
    rw [hp] at hr
    cases hr
    exact hn.out j s hj hs

theorem cb4 {w wr : World} {a b c d : Value} (hw : Below (w.heap.size + 1) (w.alloc (.cells #[a, b, c, d] 40)) wr) :
    wr.cell? ⟨w.heap.size, 0, none⟩ = some a ∧ wr.cell? ⟨w.heap.size, 1, none⟩ = some b ∧ wr.cell? ⟨w.heap.size, 2, none⟩ = some c ∧ wr.cell? ⟨w.heap.size, 3, none⟩ = some d := by
  have h : wr.heap[w.heap.size]? = some (.cells #[a, b, c, d] 40 (0, 0)) := (hw.block _ (by omega)).trans (heap_alloc_new w _)
  exact ⟨(cell_of_row wr _ 0 _ _ _ h).trans rfl, (cell_of_row wr _ 1 _ _ _ h).trans rfl, (cell_of_row wr _ 2 _ _ _ h).trans rfl, (cell_of_row wr _ 3 _ _ _ h).trans rfl⟩

set_option maxRecDepth 100000 in
set_option maxHeartbeats 40000000 in
theorem fits_any (sp : Int) (vT vP vL : Value) (T : List (Int × Int)) (Q L : List (Int × Int × Int × Int)) (w : World) (iT : Inl w 2 vT (T.map tRow)) (iP : Inl w 4 vP (Q.map qRow)) (iL : Inl w 4 vL (L.map qRow)) :
    Calls Tryz.prog 44 #[.agg #[.int .i64 sp, vT, vP, vL]] w fun e w' => ∃ r, e = .returned (.bool r) ∧ (r = true ↔ Fits sp T Q L) ∧ Below w.heap.size w w' := by
  obtain ⟨aT, cT, eT⟩ := iT.slice
  obtain ⟨aP, cP, eP⟩ := iP.slice
  obtain ⟨aL, cL, eL⟩ := iL.slice
  have hmT : T.length ≤ maxLen := by obtain ⟨_, _, _, h, _⟩ := iT.form; simpa using h
  have hmP : Q.length ≤ maxLen := by obtain ⟨_, _, _, h, _⟩ := iP.form; simpa using h
  have hmL : L.length ≤ maxLen := by obtain ⟨_, _, _, h, _⟩ := iL.form; simpa using h
  unfold maxLen at hmT hmP hmL
  rw [List.length_map] at eT eP eL
  subst eT eP eL
  obtain ⟨nT, hnT⟩ : ∃ n, T.length = n := ⟨_, rfl⟩
  obtain ⟨nP, hnP⟩ : ∃ n, Q.length = n := ⟨_, rfl⟩
  obtain ⟨nL, hnL⟩ : ∃ n, L.length = n := ⟨_, rfl⟩
  rw [hnT] at iT hmT ⊢
  rw [hnP] at iP hmP ⊢
  rw [hnL] at iL hmL ⊢
  have HI := hid (And.intro iT (And.intro iP iL))
  have HN := hid (And.intro hnT (And.intro hnP hnL))
  clear iT iP iL hnT hnP hnL
  have fin : Hid (∀ (w' : World), Below w.heap.size w w' → ¬ Fits sp T Q L → ∃ r, Ending.returned (.bool false) = .returned (.bool r) ∧ (r = true ↔ Fits sp T Q L) ∧ Below w.heap.size w w') :=
    fun w' hb hn => ⟨false, rfl, ⟨fun h => by simp at h, fun h => absurd h hn⟩, hb⟩
  have fitQ : Hid (∀ (h : Fits sp T Q L) (k : Nat) p, Q[k]? = some p → okQ sp ((nT : Int) - 1) p) := fun h k p hp => by have h2 := h.2.2.2.1 k p hp; rwa [HN.out.1] at h2
  have hb0 : Hid (Below w.heap.size w (w.alloc (.cells #[.int .i64 sp, .slice aT nT cT, .slice aP nP cP, .slice aL nL cL] 40))) := (Below.refl _ w).alloc (Nat.le_refl _) _
  cases ea : inI sp 1 3 with
  | false =>
    go_enter Tryz.func44, Tryz.ntmps44
    go_wp2_with (go_at_call 61; refine (in_any _ _ _ _).mono ?_; rintro e w1 ⟨rfl, rfl⟩)
    go_ret
    exact fin.out _ hb0.out (fun h => inI_false.1 ea h.1)
  | true =>
    cases eb : inI (nT : Int) 1 6 with
    | false =>
      go_enter Tryz.func44, Tryz.ntmps44
      go_wp2_with (go_at_call 61; refine (in_any _ _ _ _).mono ?_; rintro e w1 ⟨rfl, rfl⟩)
      go_ret
      exact fin.out _ hb0.out (fun h => inI_false.1 eb (by have := h.2.1; have := HN.out.1; omega))
    | true =>
      have s1 : 1 ≤ sp := (inI_true.1 ea).1
      have s2 : sp ≤ 3 := (inI_true.1 ea).2
      have t1 : 1 ≤ (nT : Int) := (inI_true.1 eb).1
      have t2 : (nT : Int) ≤ 6 := (inI_true.1 eb).2
      go_enter Tryz.func44, Tryz.ntmps44
      go_wp2_with (go_at_call 61; refine (in_any _ _ _ _).mono ?_; rintro e w1 ⟨rfl, rfl⟩)
      clear ea eb
      go_loopw [5] (fun i wr => ∃ k : Nat, k ≤ nT ∧ i = .int .i64 k ∧ Hid (∀ (i : Nat) p, i < k → T[i]? = some p → okT sp p) ∧ Below (w.heap.size + 1) (w.alloc (.cells #[.int .i64 sp, .slice aT nT cT, .slice aP nP cP, .slice aL nL cL] 40)) wr) (fun i _ => nT - (intOf i).toNat)
      case atStart => exact ⟨0, Nat.zero_le _, rfl, fun i p h => absurd h (by omega), Below.refl _ _⟩
      case round =>
        obtain ⟨k, hk, rfl, hok, hw⟩ := hrel
        obtain ⟨c0, c1, c2, c3⟩ := cb4 hw
        have hwb : Hid (Below w.heap.size w wr) := hb0.out.trans (hw.mono (by omega))
        have hw' : Below (w.alloc (.cells #[.int .i64 sp, .slice aT nT cT, .slice aP nP cP, .slice aL nL cL] 40)).heap.size (w.alloc (.cells #[.int .i64 sp, .slice aT nT cT, .slice aP nP cP, .slice aL nL cL] 40)) wr := by rw [size_alloc]; exact hw
        have lw : w.heap.size < wr.heap.size := Nat.lt_of_lt_of_le (by simp) hw.size
        by_cases hlt : k < nT
        · obtain ⟨p, hp⟩ : ∃ p, T[k]? = some p := ⟨_, List.getElem?_eq_getElem (by have := HN.out; omega)⟩
          obtain ⟨b1, o1, e1, r1⟩ := ((HI.out.1.alloc (by decide) _).below (by decide) hw').row (k := k) (r := [.int .i64 p.1, .int .i64 p.2]) (by rw [List.getElem?_map, hp]; rfl)
          have g0 := r1 0 (.int .i64 p.1) rfl
          have g1 := r1 1 (.int .i64 p.2) rfl
          simp only [Nat.add_zero] at g0
          subst e1
          have HW := hid hw
          have HP := hid hp
          clear hw hw' r1 hp
          cases ea : inI p.1 0 (sp - 1) with
          | false =>
            go_wp2_with fail
            go_quiet ((go_at_call 61; exact Calls.quiet_of_same (in_any _ _ _ _)))
            go_wp2_with (go_at_call 61; refine (in_any _ _ _ _).mono ?_; rintro e w1 ⟨rfl, rfl⟩)
            go_ret
            exact fin.out _ (below_drewN hwb.out _) (fun h => inI_false.1 ea (by have := h.2.2.1 k p HP.out; exact ⟨this.1, this.2.1⟩))
          | true =>
            cases eb : inI p.2 0 3 with
            | false =>
              go_wp2_with fail
              go_quiet ((go_at_call 61; exact Calls.quiet_of_same (in_any _ _ _ _)))
              go_wp2_with (go_at_call 61; refine (in_any _ _ _ _).mono ?_; rintro e w1 ⟨rfl, rfl⟩)
              go_ret
              exact fin.out _ (below_drewN hwb.out _) (fun h => inI_false.1 eb (by have := h.2.2.1 k p HP.out; exact this.2.2))
            | true =>
              have OK : Hid (Hid (∀ (i : Nat) p, i < k + 1 → T[i]? = some p → okT sp p)) := fun i q hi hq => by
                by_cases h : i < k
                · exact hok.out i q h hq
                · have : i = k := by omega
                  subst this
                  rw [HP.out] at hq
                  cases hq
                  have h1 := inI_true.1 ea
                  have h2 := inI_true.1 eb
                  exact ⟨h1.1, h1.2, h2.1, h2.2⟩
              go_wp2_with fail
              go_quiet ((go_at_call 61; exact Calls.quiet_of_same (in_any _ _ _ _)))
              go_wp2_with (go_at_call 61; refine (in_any _ _ _ _).mono ?_; rintro e w1 ⟨rfl, rfl⟩)
              first
                | exact ⟨⟨k + 1, by omega, by go_num, OK.out, below_drewN HW.out _⟩, by simp [intOf]; omega⟩
                | (go_roundw
                   case rel => first | exact ⟨k + 1, by omega, by go_num, OK.out, below_drewN HW.out _⟩ | ((repeat apply Exists.intro); exact ⟨⟨k + 1, by omega, by go_num, OK.out, below_drewN HW.out _⟩, rfl⟩)
                   case measure => simp [intOf]; omega)
        · have OKT : Hid (∀ (i : Nat) p, T[i]? = some p → okT sp p) := fun i p hp => hok.out i p (by have := (List.getElem?_eq_some_iff.1 hp).1; have := HN.out.1; omega) hp
          have HW := hid hw
          clear hw hw' hok
          go_wp2_with fail
          clear c0 c1 c2 c3 lw hk hlt hwb
          go_loopw [6] (fun i wr => ∃ k : Nat, k ≤ nP ∧ i = .int .i64 k ∧ Hid (∀ (i : Nat) p, i < k → Q[i]? = some p → okQ sp ((nT : Int) - 1) p) ∧ Hid (∀ (i j : Nat) p q, j < i → i < k → Q[i]? = some p → Q[j]? = some q → ¬ (q.1 = p.1 ∧ q.2.1 = p.2.1)) ∧ Below (w.heap.size + 1) (w.alloc (.cells #[.int .i64 sp, .slice aT nT cT, .slice aP nP cP, .slice aL nL cL] 40)) wr) (fun i _ => nP - (intOf i).toNat)
          case atStart => exact ⟨0, Nat.zero_le _, rfl, fun i p h => absurd h (by omega), fun i j p q _ h => absurd h (by omega), HW.out⟩
          case round =>
            obtain ⟨k, hk, rfl, hok, hap, hw⟩ := hrel
            obtain ⟨c0, c1, c2, c3⟩ := cb4 hw
            have hwb : Hid (Below w.heap.size w wr) := hb0.out.trans (hw.mono (by omega))
            have hw' : Below (w.alloc (.cells #[.int .i64 sp, .slice aT nT cT, .slice aP nP cP, .slice aL nL cL] 40)).heap.size (w.alloc (.cells #[.int .i64 sp, .slice aT nT cT, .slice aP nP cP, .slice aL nL cL] 40)) wr := by rw [size_alloc]; exact hw
            have lw : w.heap.size < wr.heap.size := Nat.lt_of_lt_of_le (by simp) hw.size
            by_cases hlt : k < nP
            · obtain ⟨p, hp⟩ : ∃ p, Q[k]? = some p := ⟨_, List.getElem?_eq_getElem (by have := HN.out; omega)⟩
              obtain ⟨b1, o1, ea, r1⟩ := ((HI.out.2.1.alloc (by decide) _).below (by decide) hw').row (k := k) (r := [.int .i64 p.1, .int .i64 p.2.1, .int .i64 p.2.2.1, .int .i64 p.2.2.2]) (by rw [List.getElem?_map, hp]; rfl)
              have R1 := hid r1
              subst ea
              have HW := hid hw
              have HP := hid hp
              clear hw hw' r1 hp
              cases e0 : inI p.1 0 (sp - 1) with
              | false =>
                go_wp2_with (first | (with_reducible (show wpList _ _ _ (⟨_, .load 67 _, _, _, _, none⟩ :: _) _ _); go_must (refine wpList_load_mid rfl 67 _ rfl b1 (o1 + k * 4) rfl _ _ R1.out Tryz.underlying67 rfl (by kernel_rfl) ?_)) | (go_at_call 61; refine (in_any _ _ _ _).mono ?_; rintro e w1 ⟨rfl, rfl⟩))
                go_ret
                exact fin.out _ (hwb.out.alloc hwb.out.size _) (fun h => inI_false.1 e0 (by have := fitQ.out h k p HP.out; exact ⟨this.1, this.2.1⟩))
              | true =>
                cases e1 : inI p.2.1 0 5 with
                | false =>
                  go_wp2_with (first | (with_reducible (show wpList _ _ _ (⟨_, .load 67 _, _, _, _, none⟩ :: _) _ _); go_must (refine wpList_load_mid rfl 67 _ rfl b1 (o1 + k * 4) rfl _ _ R1.out Tryz.underlying67 rfl (by kernel_rfl) ?_)) | (go_at_call 61; refine (in_any _ _ _ _).mono ?_; rintro e w1 ⟨rfl, rfl⟩))
                  go_ret
                  exact fin.out _ (hwb.out.alloc hwb.out.size _) (fun h => inI_false.1 e1 (by have := fitQ.out h k p HP.out; exact ⟨this.2.2.1, this.2.2.2.1⟩))
                | true =>
                  cases e2 : inI p.2.2.1 0 ((nT : Int) - 1) with
                  | false =>
                    go_wp2_with (first | (with_reducible (show wpList _ _ _ (⟨_, .load 67 _, _, _, _, none⟩ :: _) _ _); go_must (refine wpList_load_mid rfl 67 _ rfl b1 (o1 + k * 4) rfl _ _ R1.out Tryz.underlying67 rfl (by kernel_rfl) ?_)) | (go_at_call 61; refine (in_any _ _ _ _).mono ?_; rintro e w1 ⟨rfl, rfl⟩))
                    go_ret
                    exact fin.out _ (hwb.out.alloc hwb.out.size _) (fun h => inI_false.1 e2 (by have := fitQ.out h k p HP.out; exact ⟨this.2.2.2.2.1, this.2.2.2.2.2.1⟩))
                  | true =>
                    cases e3 : inI p.2.2.2 1 3 with
                    | false =>
                      go_wp2_with (first | (with_reducible (show wpList _ _ _ (⟨_, .load 67 _, _, _, _, none⟩ :: _) _ _); go_must (refine wpList_load_mid rfl 67 _ rfl b1 (o1 + k * 4) rfl _ _ R1.out Tryz.underlying67 rfl (by kernel_rfl) ?_)) | (go_at_call 61; refine (in_any _ _ _ _).mono ?_; rintro e w1 ⟨rfl, rfl⟩))
                      go_ret
                      exact fin.out _ (hwb.out.alloc hwb.out.size _) (fun h => inI_false.1 e3 (by have := fitQ.out h k p HP.out; exact ⟨this.2.2.2.2.2.2.1, this.2.2.2.2.2.2.2⟩))
                    | true =>
                      have OK : Hid (Hid (∀ (i : Nat) p, i < k + 1 → Q[i]? = some p → okQ sp ((nT : Int) - 1) p)) := fun i q hi hq => by
                        by_cases h : i < k
                        · exact hok.out i q h hq
                        · have : i = k := by omega
                          subst this
                          rw [HP.out] at hq
                          cases hq
                          have h0 := inI_true.1 e0
                          have h1 := inI_true.1 e1
                          have h2 := inI_true.1 e2
                          have h3 := inI_true.1 e3
                          exact ⟨h0.1, h0.2, h1.1, h1.2, h2.1, h2.2, h3.1, h3.2⟩
                      go_wp2_with (first | (with_reducible (show wpList _ _ _ (⟨_, .load 67 _, _, _, _, none⟩ :: _) _ _); go_must (refine wpList_load_mid rfl 67 _ rfl b1 (o1 + k * 4) rfl _ _ R1.out Tryz.underlying67 rfl (by kernel_rfl) ?_)) | (go_at_call 61; refine (in_any _ _ _ _).mono ?_; rintro e w1 ⟨rfl, rfl⟩))
                      clear e0 e1 e2 e3
                      go_loopw [10] (fun i wq => ∃ m : Nat, m ≤ k ∧ i = .int .i64 m ∧ Hid (∀ (j : Nat) q, j < m → Q[j]? = some q → ¬ (q.1 = p.1 ∧ q.2.1 = p.2.1)) ∧ Below (wr.heap.size + 1) (wr.alloc (.cells #[.int .i64 p.1, .int .i64 p.2.1, .int .i64 p.2.2.1, .int .i64 p.2.2.2] 67)) wq) (fun i _ => k - (intOf i).toNat)
                      case atStart => exact ⟨0, Nat.zero_le _, rfl, fun j q h => absurd h (by omega), Below.refl _ _⟩
                      case round =>
                        rename World => wq
                        obtain ⟨m, hm, rfl, hne, hv⟩ := hrel
                        have hv' : Below (wr.alloc (.cells #[.int .i64 p.1, .int .i64 p.2.1, .int .i64 p.2.2.1, .int .i64 p.2.2.2] 67)).heap.size (wr.alloc (.cells #[.int .i64 p.1, .int .i64 p.2.1, .int .i64 p.2.2.1, .int .i64 p.2.2.2] 67)) wq := by rw [size_alloc]; exact hv
                        have hWq := (HW.out.alloc (by omega) (.cells #[.int .i64 p.1, .int .i64 p.2.1, .int .i64 p.2.2.1, .int .i64 p.2.2.2] 67)).trans (hv.mono (by omega))
                        obtain ⟨c0', c1', c2', c3'⟩ := cb4 hWq
                        have hpb : wq.heap[wr.heap.size]? = some (.cells #[.int .i64 p.1, .int .i64 p.2.1, .int .i64 p.2.2.1, .int .i64 p.2.2.2] 67 (0, 0)) := (hv.block _ (by omega)).trans (heap_alloc_new wr _)
                        have q0 : wq.cell? ⟨wr.heap.size, 0, none⟩ = some (.int .i64 p.1) := (cell_of_row wq _ 0 _ _ _ hpb).trans rfl
                        have q1 : wq.cell? ⟨wr.heap.size, 1, none⟩ = some (.int .i64 p.2.1) := (cell_of_row wq _ 1 _ _ _ hpb).trans rfl
                        have HV := hid hv
                        have HWQ := hid hWq
                        clear hv hv' hpb hWq
                        by_cases hmk : m < k
                        · obtain ⟨q, hq⟩ : ∃ q, Q[m]? = some q := ⟨_, List.getElem?_eq_getElem (by have := HN.out; omega)⟩
                          obtain ⟨b2, o2, ee, r2⟩ := (HI.out.2.1.below1 (by decide) HWQ.out).row (k := m) (r := [.int .i64 q.1, .int .i64 q.2.1, .int .i64 q.2.2.1, .int .i64 q.2.2.2]) (by rw [List.getElem?_map, hq]; rfl)
                          have g0 := r2 0 (.int .i64 q.1) rfl
                          have g1 := r2 1 (.int .i64 q.2.1) rfl
                          simp only [Nat.add_zero] at g0
                          simp only [Option.some.injEq, Addr.mk.injEq, and_true] at ee
                          obtain ⟨rfl, rfl⟩ := ee
                          have HQ := hid hq
                          clear r2 hq
                          by_cases f0 : q.1 = p.1
                          · have d0 : (q.1 == p.1) = true := by simp [f0]
                            by_cases f1 : q.2.1 = p.2.1
                            · have d1 : (q.2.1 == p.2.1) = true := by simp [f1]
                              have F := hid (And.intro f0 f1)
                              clear f0 f1
                              go_wp2_with fail
                              go_quiet (fail)
                              go_wp2
                              go_ret
                              exact fin.out _ (below_drewN (hb0.out.trans (HWQ.out.mono (by omega))) _) (fun h => (fun (h : Fits sp T Q L) => h.2.2.2.2.1) h k m p q hmk HP.out HQ.out F.out)
                            · have d1 : (q.2.1 == p.2.1) = false := by simp [f1]
                              have F := hid f1
                              clear f0 f1
                              go_wp2_with fail
                              go_quiet (fail)
                              go_wp2
                              first
                                | exact ⟨⟨m + 1, by omega, by go_num, ne_step hne HQ.out (fun h => F.out h.2), below_drewN HV.out _⟩, by simp [intOf]; omega⟩
                                | (go_roundw
                                   case rel => first | exact ⟨m + 1, by omega, by go_num, ne_step hne HQ.out (fun h => F.out h.2), below_drewN HV.out _⟩ | ((repeat apply Exists.intro); exact ⟨⟨m + 1, by omega, by go_num, ne_step hne HQ.out (fun h => F.out h.2), below_drewN HV.out _⟩, rfl⟩)
                                   case measure => simp [intOf]; omega)
                          · have d0 : (q.1 == p.1) = false := by simp [f0]
                            have F := hid f0
                            clear f0
                            go_wp2_with fail
                            go_quiet (fail)
                            go_wp2
                            first
                              | exact ⟨⟨m + 1, by omega, by go_num, ne_step hne HQ.out (fun h => F.out h.1), below_drewN HV.out _⟩, by simp [intOf]; omega⟩
                              | (go_roundw
                                 case rel => first | exact ⟨m + 1, by omega, by go_num, ne_step hne HQ.out (fun h => F.out h.1), below_drewN HV.out _⟩ | ((repeat apply Exists.intro); exact ⟨⟨m + 1, by omega, by go_num, ne_step hne HQ.out (fun h => F.out h.1), below_drewN HV.out _⟩, rfl⟩)
                                 case measure => simp [intOf]; omega)
                        · have ND : Hid (∀ (j : Nat) q, j < k → Q[j]? = some q → ¬ (q.1 = p.1 ∧ q.2.1 = p.2.1)) := fun j q hj => hne.out j q (by omega)
                          clear hne
                          go_wp2
                          first
                            | exact ⟨⟨k + 1, by omega, by go_num, OK.out, ap_step hap HP.out ND, HWQ.out⟩, by simp [intOf]; omega⟩
                            | (go_roundw
                               case rel => first | exact ⟨k + 1, by omega, by go_num, OK.out, ap_step hap HP.out ND, HWQ.out⟩ | ((repeat apply Exists.intro); exact ⟨⟨k + 1, by omega, by go_num, OK.out, ap_step hap HP.out ND, HWQ.out⟩, rfl⟩)
                               case measure => simp [intOf]; omega)
            · have OKQ : Hid (∀ (i : Nat) p, Q[i]? = some p → okQ sp ((nT : Int) - 1) p) := fun i p hp => hok.out i p (by have := (List.getElem?_eq_some_iff.1 hp).1; have := HN.out; omega) hp
              have APQ : Hid (Apart Q) := fun i j p q hj hp hq => hap.out i j p q hj (by have := (List.getElem?_eq_some_iff.1 hp).1; have := HN.out; omega) hp hq
              have HW := hid hw
              clear hw hw' hok hap
              go_wp2_with fail
              clear c0 c1 c2 c3 lw hk hlt hwb
              go_loopw [11] (fun i wr => ∃ k : Nat, k ≤ nL ∧ i = .int .i64 k ∧ Hid (∀ (i : Nat) p, i < k → L[i]? = some p → okQ sp 7 p) ∧ Hid (∀ (i j : Nat) p q, j < i → i < k → L[i]? = some p → L[j]? = some q → ¬ (q.1 = p.1 ∧ q.2.1 = p.2.1)) ∧ Below (w.heap.size + 1) (w.alloc (.cells #[.int .i64 sp, .slice aT nT cT, .slice aP nP cP, .slice aL nL cL] 40)) wr) (fun i _ => nL - (intOf i).toNat)
              case atStart => exact ⟨0, Nat.zero_le _, rfl, fun i p h => absurd h (by omega), fun i j p q _ h => absurd h (by omega), HW.out⟩
              case round =>
                obtain ⟨k, hk, rfl, hok, hap, hw⟩ := hrel
                obtain ⟨c0, c1, c2, c3⟩ := cb4 hw
                have hwb : Hid (Below w.heap.size w wr) := hb0.out.trans (hw.mono (by omega))
                have hw' : Below (w.alloc (.cells #[.int .i64 sp, .slice aT nT cT, .slice aP nP cP, .slice aL nL cL] 40)).heap.size (w.alloc (.cells #[.int .i64 sp, .slice aT nT cT, .slice aP nP cP, .slice aL nL cL] 40)) wr := by rw [size_alloc]; exact hw
                have lw : w.heap.size < wr.heap.size := Nat.lt_of_lt_of_le (by simp) hw.size
                by_cases hlt : k < nL
                · obtain ⟨p, hp⟩ : ∃ p, L[k]? = some p := ⟨_, List.getElem?_eq_getElem (by have := HN.out; omega)⟩
                  obtain ⟨b1, o1, ea, r1⟩ := ((HI.out.2.2.alloc (by decide) _).below (by decide) hw').row (k := k) (r := [.int .i64 p.1, .int .i64 p.2.1, .int .i64 p.2.2.1, .int .i64 p.2.2.2]) (by rw [List.getElem?_map, hp]; rfl)
                  have R1 := hid r1
                  subst ea
                  have HW := hid hw
                  have HP := hid hp
                  clear hw hw' r1 hp
                  cases e0 : inI p.1 0 (sp - 1) with
                  | false =>
                    go_wp2_with (first | (with_reducible (show wpList _ _ _ (⟨_, .load 69 _, _, _, _, none⟩ :: _) _ _); go_must (refine wpList_load_mid rfl 69 _ rfl b1 (o1 + k * 4) rfl _ _ R1.out Tryz.underlying69 rfl (by kernel_rfl) ?_)) | (go_at_call 61; refine (in_any _ _ _ _).mono ?_; rintro e w1 ⟨rfl, rfl⟩))
                    go_ret
                    exact fin.out _ (hwb.out.alloc hwb.out.size _) (fun h => inI_false.1 e0 (by have := (fun (h : Fits sp T Q L) => h.2.2.2.2.2.1) h k p HP.out; exact ⟨this.1, this.2.1⟩))
                  | true =>
                    cases e1 : inI p.2.1 0 5 with
                    | false =>
                      go_wp2_with (first | (with_reducible (show wpList _ _ _ (⟨_, .load 69 _, _, _, _, none⟩ :: _) _ _); go_must (refine wpList_load_mid rfl 69 _ rfl b1 (o1 + k * 4) rfl _ _ R1.out Tryz.underlying69 rfl (by kernel_rfl) ?_)) | (go_at_call 61; refine (in_any _ _ _ _).mono ?_; rintro e w1 ⟨rfl, rfl⟩))
                      go_ret
                      exact fin.out _ (hwb.out.alloc hwb.out.size _) (fun h => inI_false.1 e1 (by have := (fun (h : Fits sp T Q L) => h.2.2.2.2.2.1) h k p HP.out; exact ⟨this.2.2.1, this.2.2.2.1⟩))
                    | true =>
                      cases e2 : inI p.2.2.1 0 7 with
                      | false =>
                        go_wp2_with (first | (with_reducible (show wpList _ _ _ (⟨_, .load 69 _, _, _, _, none⟩ :: _) _ _); go_must (refine wpList_load_mid rfl 69 _ rfl b1 (o1 + k * 4) rfl _ _ R1.out Tryz.underlying69 rfl (by kernel_rfl) ?_)) | (go_at_call 61; refine (in_any _ _ _ _).mono ?_; rintro e w1 ⟨rfl, rfl⟩))
                        go_ret
                        exact fin.out _ (hwb.out.alloc hwb.out.size _) (fun h => inI_false.1 e2 (by have := (fun (h : Fits sp T Q L) => h.2.2.2.2.2.1) h k p HP.out; exact ⟨this.2.2.2.2.1, this.2.2.2.2.2.1⟩))
                      | true =>
                        cases e3 : inI p.2.2.2 1 3 with
                        | false =>
                          go_wp2_with (first | (with_reducible (show wpList _ _ _ (⟨_, .load 69 _, _, _, _, none⟩ :: _) _ _); go_must (refine wpList_load_mid rfl 69 _ rfl b1 (o1 + k * 4) rfl _ _ R1.out Tryz.underlying69 rfl (by kernel_rfl) ?_)) | (go_at_call 61; refine (in_any _ _ _ _).mono ?_; rintro e w1 ⟨rfl, rfl⟩))
                          go_ret
                          exact fin.out _ (hwb.out.alloc hwb.out.size _) (fun h => inI_false.1 e3 (by have := (fun (h : Fits sp T Q L) => h.2.2.2.2.2.1) h k p HP.out; exact ⟨this.2.2.2.2.2.2.1, this.2.2.2.2.2.2.2⟩))
                        | true =>
                          have OK : Hid (Hid (∀ (i : Nat) p, i < k + 1 → L[i]? = some p → okQ sp 7 p)) := fun i q hi hq => by
                            by_cases h : i < k
                            · exact hok.out i q h hq
                            · have : i = k := by omega
                              subst this
                              rw [HP.out] at hq
                              cases hq
                              have h0 := inI_true.1 e0
                              have h1 := inI_true.1 e1
                              have h2 := inI_true.1 e2
                              have h3 := inI_true.1 e3
                              exact ⟨h0.1, h0.2, h1.1, h1.2, h2.1, h2.2, h3.1, h3.2⟩
                          go_wp2_with (first | (with_reducible (show wpList _ _ _ (⟨_, .load 69 _, _, _, _, none⟩ :: _) _ _); go_must (refine wpList_load_mid rfl 69 _ rfl b1 (o1 + k * 4) rfl _ _ R1.out Tryz.underlying69 rfl (by kernel_rfl) ?_)) | (go_at_call 61; refine (in_any _ _ _ _).mono ?_; rintro e w1 ⟨rfl, rfl⟩))
                          clear e0 e1 e2 e3
                          go_loopw [15] (fun i wq => ∃ m : Nat, m ≤ k ∧ i = .int .i64 m ∧ Hid (∀ (j : Nat) q, j < m → L[j]? = some q → ¬ (q.1 = p.1 ∧ q.2.1 = p.2.1)) ∧ Below (wr.heap.size + 1) (wr.alloc (.cells #[.int .i64 p.1, .int .i64 p.2.1, .int .i64 p.2.2.1, .int .i64 p.2.2.2] 69)) wq) (fun i _ => k - (intOf i).toNat)
                          case atStart => exact ⟨0, Nat.zero_le _, rfl, fun j q h => absurd h (by omega), Below.refl _ _⟩
                          case round =>
                            rename World => wq
                            obtain ⟨m, hm, rfl, hne, hv⟩ := hrel
                            have hv' : Below (wr.alloc (.cells #[.int .i64 p.1, .int .i64 p.2.1, .int .i64 p.2.2.1, .int .i64 p.2.2.2] 69)).heap.size (wr.alloc (.cells #[.int .i64 p.1, .int .i64 p.2.1, .int .i64 p.2.2.1, .int .i64 p.2.2.2] 69)) wq := by rw [size_alloc]; exact hv
                            have hWq := (HW.out.alloc (by omega) (.cells #[.int .i64 p.1, .int .i64 p.2.1, .int .i64 p.2.2.1, .int .i64 p.2.2.2] 69)).trans (hv.mono (by omega))
                            obtain ⟨c0', c1', c2', c3'⟩ := cb4 hWq
                            have hpb : wq.heap[wr.heap.size]? = some (.cells #[.int .i64 p.1, .int .i64 p.2.1, .int .i64 p.2.2.1, .int .i64 p.2.2.2] 69 (0, 0)) := (hv.block _ (by omega)).trans (heap_alloc_new wr _)
                            have q0 : wq.cell? ⟨wr.heap.size, 0, none⟩ = some (.int .i64 p.1) := (cell_of_row wq _ 0 _ _ _ hpb).trans rfl
                            have q1 : wq.cell? ⟨wr.heap.size, 1, none⟩ = some (.int .i64 p.2.1) := (cell_of_row wq _ 1 _ _ _ hpb).trans rfl
                            have HV := hid hv
                            have HWQ := hid hWq
                            clear hv hv' hpb hWq
                            by_cases hmk : m < k
                            · obtain ⟨q, hq⟩ : ∃ q, L[m]? = some q := ⟨_, List.getElem?_eq_getElem (by have := HN.out; omega)⟩
                              obtain ⟨b2, o2, ee, r2⟩ := (HI.out.2.2.below1 (by decide) HWQ.out).row (k := m) (r := [.int .i64 q.1, .int .i64 q.2.1, .int .i64 q.2.2.1, .int .i64 q.2.2.2]) (by rw [List.getElem?_map, hq]; rfl)
                              have g0 := r2 0 (.int .i64 q.1) rfl
                              have g1 := r2 1 (.int .i64 q.2.1) rfl
                              simp only [Nat.add_zero] at g0
                              simp only [Option.some.injEq, Addr.mk.injEq, and_true] at ee
                              obtain ⟨rfl, rfl⟩ := ee
                              have HQ := hid hq
                              clear r2 hq
                              by_cases f0 : q.1 = p.1
                              · have d0 : (q.1 == p.1) = true := by simp [f0]
                                by_cases f1 : q.2.1 = p.2.1
                                · have d1 : (q.2.1 == p.2.1) = true := by simp [f1]
                                  have F := hid (And.intro f0 f1)
                                  clear f0 f1
                                  go_wp2_with fail
                                  go_quiet (fail)
                                  go_wp2
                                  go_ret
                                  exact fin.out _ (below_drewN (hb0.out.trans (HWQ.out.mono (by omega))) _) (fun h => (fun (h : Fits sp T Q L) => h.2.2.2.2.2.2) h k m p q hmk HP.out HQ.out F.out)
                                · have d1 : (q.2.1 == p.2.1) = false := by simp [f1]
                                  have F := hid f1
                                  clear f0 f1
                                  go_wp2_with fail
                                  go_quiet (fail)
                                  go_wp2
                                  first
                                    | exact ⟨⟨m + 1, by omega, by go_num, ne_step hne HQ.out (fun h => F.out h.2), below_drewN HV.out _⟩, by simp [intOf]; omega⟩
                                    | (go_roundw
                                       case rel => first | exact ⟨m + 1, by omega, by go_num, ne_step hne HQ.out (fun h => F.out h.2), below_drewN HV.out _⟩ | ((repeat apply Exists.intro); exact ⟨⟨m + 1, by omega, by go_num, ne_step hne HQ.out (fun h => F.out h.2), below_drewN HV.out _⟩, rfl⟩)
                                       case measure => simp [intOf]; omega)
                              · have d0 : (q.1 == p.1) = false := by simp [f0]
                                have F := hid f0
                                clear f0
                                go_wp2_with fail
                                go_quiet (fail)
                                go_wp2
                                first
                                  | exact ⟨⟨m + 1, by omega, by go_num, ne_step hne HQ.out (fun h => F.out h.1), below_drewN HV.out _⟩, by simp [intOf]; omega⟩
                                  | (go_roundw
                                     case rel => first | exact ⟨m + 1, by omega, by go_num, ne_step hne HQ.out (fun h => F.out h.1), below_drewN HV.out _⟩ | ((repeat apply Exists.intro); exact ⟨⟨m + 1, by omega, by go_num, ne_step hne HQ.out (fun h => F.out h.1), below_drewN HV.out _⟩, rfl⟩)
                                     case measure => simp [intOf]; omega)
                            · have ND : Hid (∀ (j : Nat) q, j < k → L[j]? = some q → ¬ (q.1 = p.1 ∧ q.2.1 = p.2.1)) := fun j q hj => hne.out j q (by omega)
                              clear hne
                              go_wp2
                              first
                                | exact ⟨⟨k + 1, by omega, by go_num, OK.out, ap_step hap HP.out ND, HWQ.out⟩, by simp [intOf]; omega⟩
                                | (go_roundw
                                   case rel => first | exact ⟨k + 1, by omega, by go_num, OK.out, ap_step hap HP.out ND, HWQ.out⟩ | ((repeat apply Exists.intro); exact ⟨⟨k + 1, by omega, by go_num, OK.out, ap_step hap HP.out ND, HWQ.out⟩, rfl⟩)
                                   case measure => simp [intOf]; omega)
                · have OKL : Hid (∀ (i : Nat) p, L[i]? = some p → okQ sp 7 p) := fun i p hp => hok.out i p (by have := (List.getElem?_eq_some_iff.1 hp).1; have := HN.out; omega) hp
                  have APL : Hid (Apart L) := fun i j p q hj hp hq => hap.out i j p q hj (by have := (List.getElem?_eq_some_iff.1 hp).1; have := HN.out; omega) hp hq
                  have HW := hid hw
                  clear hw hw' hok hap
                  go_wp2
                  go_ret
                  exact ⟨true, rfl, ⟨fun _ => ⟨⟨s1, s2⟩, ⟨by have := HN.out; omega, by have := HN.out; omega⟩, OKT.out, by rw [HN.out.1]; exact OKQ.out, APQ.out, OKL.out, APL.out⟩, fun _ => rfl⟩, hwb.out⟩
end Go.Proofs.YtgiiegppaleldaaGreatDoor
